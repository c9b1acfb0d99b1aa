import PyProof.Rows.All
import Wide.All
import OpenK.AllK
import Wide.FinOn
import Lean
import PyProof.EqAt
import PyProof.EqKinds
import PyProof.TupleCall
import KE.KRevSl
import PyProof.DictWalks
import PyProof.EnumStmt
import PyProof.Rows.EnumRows
import PyProof.Rows.SetFrom
import PyProof.Rows.ZipGen
import PyProof.TupleOfSeq
import PyProof.ZipIter
import PySem.Challenge.RW_roomtouch_k02_no_webs
set_option Elab.async false
set_option linter.all false
set_option compiler.extract_closed false
set_option maxRecDepth 100000
set_option maxHeartbeats 4000000
open List renaming length_map->a7,mem_map->bg,getElem?_eq_some_iff->bt,getElem?_eq_getElem->cA,getElem?_map->eo,mem_append->et,mem_cons->ey,length_append->eH,mem_singleton->eP,mem_of_getElem?->eR,size_toArray->eT,map_append->eW,map_map->fk,mem_cons_of_mem->fm,mem_cons_self->fv,length_cons->f',mem_filter->gf,pairwise_map->gj,mergeSort_perm->hA,not_mem_nil->hF,map_cons->hY,all_eq_true->ia,nodup_append->iR,mem_append_right->iW,range->ka,getElem?_append_left->kq,getElem?_set_ne->kx,getElem?_set_self->lp,getElem?_append_right->lz,length_take->l5,nodup_cons->me,getD_eq_getElem?_getD->mA,countP_cons->nk,length_range->nT,countP_append->n5,pairwise_iff_getElem->oy,append_assoc->ph,map_congr_left->pA,length_pos_iff->pB,countP_map->p6,perm_ext_iff_of_nodup->p8,getElem_of_mem->qt,filter_sublist->ri,countP_eq_zero->rk,append_nil->r4,length_drop->se,any_eq_true->sj,countP_eq_length_filter->tm,pairwise_cons->tu,take_length->t9,pairwise_mergeSort->ua,mem_append_left->ub,getElem_inj->um,length_filter_le->vv,countP_congr->yv,length_set->zb,lookup_cons->z6,getElem_map->z7,nodup_nil->z8,mem_filterMap->z9,cons_lt_cons_iff->HT,not_lt->LS,length_reverse->N',lt_irrefl->P2,filter_cons->P',length_nil->UE,sum_cons->UG,any_cons->UH,take_append_drop->UK,length_singleton->UL,count_nil->UP,map_id'->UT,getElem_mem->UU,lt_trans->U1,find?_cons->U2,count_cons->U3,map_mergeSort->U4,pairwise_singleton->U6,findIdx?_eq_some_iff_getElem->U9,mem_range->Vc,count_append->Vd,le_antisymm->Vm,pairwise_append->Vy,map_eq_nil_iff->VD,getElem?_range->VE,toArray->VJ,map_nil->VL,mem_of_find?_eq_some->VX,getElem?_zip_eq_some->VY,reverse_cons->VZ,filter_congr->V0,map_take->V4,map_drop->V5,all_cons->V6,mem_flatMap->Wb,length_eq_zero_iff->Wc,getElem?_replicate->Wd,take_of_length_le->Wm,drop_of_length_le->Wn,any_map->Wo,all_map->Wp,forIn_cons->Wt,perm_append_comm->Wx,length_replicate->Wy,countP_le_length->Wz,replicate->WH,filterMap_cons->WO,zip_cons_cons->WV,find?_eq_none->WW,filterMap_map->WX,count_eq_zero->WY,take_sublist->W5,flatMap_cons->W6,all_eq_false->W7,sum_append->Xt,range_succ->Xu,of_mem_zip->Xv,find?_some->Xw,take_zero->XT,perm_append_singleton->XU,length_eraseIdx_of_lt->XW,exists_mem_of_ne_nil->X2,drop_eq_getElem_cons->X3,take_nil->X8,length_erase_of_mem->X9,getElem?_take_of_lt->X',sum_nil->Yg,range_succ_eq_map->Yh,length_pos_of_mem->Yi,length_eq_one_iff->Yj,mem_iff_getElem?->YB,getElem?_eq_none->YC,countP_singleton->YD,mem_of_mem_take->YH,mem_erase_of_ne->YI,countP->YJ,flatMap_append->YX,filter_eq_self->YY,filterMap_some->YZ,mem_mergeSort->Y4,map_inj_right->Y5,getElem?_drop->Y6,findIdx?_cons->Y7,filter_append->Y8,count_pos_iff->Y9,foldl_append->Zs,range'_succ->Zw,map_snd_zip->Zx,map_reverse->Zy,flatMap_def->Zz,ext_getElem->ZA,drop_length->ZC,nil_append->ZL,length_zip->ZM,foldl_cons->ZN,filter_map->ZO,drop_nil->aac
open PySem renaming Value->bR,wpAny_bind->cn,sizeLine->dk,Shared->dr,Addr->dR,Str->eA,wpAny_pure->eK,Expr->gi,wpAny->gW,mainGlobals->hE,FuncData->hQ,model->ib,Program->iN,compareOp->k7,starEach->lq,World->nE,Heap->nS,Around->n6,assignEach->ql,foldedSetIterable->r0,wpAny_holding->sH,behindInMarks->sW,cLine->uz,wpAny_mono->u2,Pos->u3,Obj->wm,wpAny_call_entry->wy,swapsWith->xn,sizeLine_eq->zd,wpAny_truthy_bool->z0,wpAny_newObj_type->z3,bootBuiltins->Hz,backTo->KX,binaryOp->L1,sysModules->Sa,Scope->Ux,Stmt->Uz,wpAny_typeNameOfWhole_keyiter->UI,wpAny_passesOwn->UO,wpAny_pyIter_list->UQ,holding->UR,mem_of_lookup->UX,wpAny_typeNameOf_keyiter->Va,codeAny_builtin->Vb,wpAny_Call_Name_kw->Vf,assign->Vg,wpAny_callSpecial?_slot->Vi,wpAny_loadPart_at->Vn,codeAny_mono->Vo,Paired->Vp,Builtin->Vs,wpAny_eqBool_str->Vz,DictEntry->VC,attributeBase->VH,sliceBounds->VM,wpAny_execs_nil->VP,typeLookup->V8,tupleKind_room_in1->V9,wpAny_dictEntries->Wi,codeAny->Wj,swapsWithSole->Wq,swappedStores->Wr,pyNext->WI,shortFactorBits->WM,letOwnedTupleGo->WN,codeAny_call_builtin->WZ,NameKind->W0,lastMarks->W2,getItem->W3,PassesOwn->W4,wpAny_standAt->Xe,ExceptHandler->Xh,call_meets->Xj,Env->Xo,valueAt->Xy,standAt->Xz,slot_list_getitem->XA,relabel->XB,boot_len->XC,GenState->XI,tupleKind->XY,IsPart->XZ,subscripted->X4,CmpOp->X7,wpAny_dictEpoch->Yc,isTrue->Ym,bindArgs->Yn,atKey->Yo,Result->Yq,wpAny_newList->YL,wpAny_getItem_list_slice->YM,wpAny_comprehension_free->YN,plainId_quiet->YO,evalPart_none->YP,bindL->Y0,bindC->Y1,wpAny_typeOf->Za,setItem->Zb,seqIndex_neg->Zc,rawInt->Zd,merged->Zf,concat_meets->Zg,callerA->Zh,ExcBaseFacts->Zn,BindsTo->Zo,wpAny_notOrdered_dict->Zt,wpAny_isOneOf_keyiter->Zu,wpAny_pyIter_keyiter->ZD,wpAny_field->ZE,seqIndex_of->ZF,getAttr?->ZG,wpAny_call->ZU,wpAny_Name->ZV,typeIs_int->ZW,truthy->ZX,pyIter->ZY,getattributeRaised->ZZ,builtinsNs->Z5,wpAny_assign_Name->aag,Keyword->aaj,wpAny_pyIter_zip->aar,wpAny_execs_cons->aas,wpAny_eqBool_int->aat,scanBound->aau,noFill_tuple_add->aaw,checkBuiltinCall->aax,cellsFrom->aay,wpAny_setField->aba,wpAny_fieldsOf->abb,firstArgMember->abc,wpAny_attempt->abn,seq_tuple_add->abo,evalPart_some->abp,call_list_seq->abq
open Bool renaming and_eq_true->ee,and_eq_true_iff->kH,eq_iff_iff->n4,not_eq_true'->pl,false_eq_true->qh,false_ne_true->t8,not_eq_true->v3,false_and->Cs,and_false->Ve,true_and->Vx,or_eq_true->Wv,and_comm->WR,eq_false_iff->W8,false_or->Ya,and_true->Yb,true_or->Yk,or_true->Yl,not_eq_false'->Y',or_false->aad,and_self->aae
open PySem.Heap renaming get?_push_of_some->eu,lt_size->eS,get?_push_size->hG,get?_update_other->UB,SameBut->VI,size_push->VO,size_update->Xg,get?_update_self->Yr,get?_push_ne->Zm
open Nat renaming le_refl->eB,ne_of_lt->gs,lt_of_lt_of_le->hI,mod_eq_of_lt->qp,zero_le->ro,le_trans->sq,lt_irrefl->wa,zero_add->z5,mod_self->UZ,lt_of_le_of_lt->U5,lt_succ_self->Vw,lt_succ_of_lt->V3,le_add_right->Wg,lt_trans->Ws,not_lt_zero->Ww,le_succ->WL,mod_lt->W1,ne_of_gt->Xc,le_of_lt->Xd,add_mod->Xs,add_comm->YA,mul_one->YW,le_of_not_lt->ZK,reduceAdd->aaq,succ_mul->aaM,sub_self->aaN,le_of_eq->aaO,mod_mod->aa9,log2_lt->aa'
open PySem.W renaming Frag->fj,mg_none_of->qe,nsIn->u1,mg_of->Ue,kitOne->UY,keepIn->VA,kia_one->VV,hideAll_get->We,fnOf->W',findIn->Xk,kas_rev->XD,KatTups->XF,mroIn->X5,excIn->X6,looks_findIn->Yd,hideAll_none->Ye,of_hideAll->YQ,clsIn->YR,methodObj->Zi,kitAny->Zj,OpenLaw->Zv,kat_cons->ZH,hideAll->Z6,funFrames_hide->Z7,cellsFrom_some->Z8,kat_no->aaz,kat_lt->aaA,exmOne->aaB,codeIn->aaC,looks_mroIn->aaQ,callWith_K->abd
open Option renaming bind_some->hH,map_eq_some_iff->j',map_some->ti,isSome_iff_exists->LK,getD_some->V2,isSome_map->WU,getD_none->Y3
open PySem.Str renaming ofString->hO,empty->UJ,cps_append->Vh,join->YT
open Array renaming getElem?_eq_getElem->ma,length_toList->nr,getD_eq_getD_getElem?->nL,getElem?_toList->n7,toList_append->U0,getElem?_eq_none->Wh,toArray_toList->WG,all_eq_true'->WT,perm_iff_toList_perm->XP,mem_toList_iff->YE,toList->aaf
open List.Pairwise renaming sublist->mu,imp_of_mem->UN,nil->XX
open PySem.SeqAt renaming canLay_of_shaped->pe,readOf->VB,shaped->aaa
open PySem.Builtin.Int renaming intBits->px,intTooBig->Xp
open PySem.Value renaming none->qo,ref->uy,bool->xr,str->NN,builtin->Vk,int->V',type->YS,isStrOf->ZR,isInt->aah
open Sum renaming inr->rp,inl->W9
open PySem.PyData renaming strOk->r6,eqv->va,canLay0->U8,canLayAll0->VQ,eqvAll->VW,depthAll->Xf
open PySem.Builtin.Str renaming occurrences->vT,tooLong->abi
open False renaming elim->za
open Int renaming eq_ofNat_of_zero_le->zc,toNat_of_nonneg->Rr,neg_lt_neg->T',emod_lt_of_pos->U7,le_refl->U',emod_nonneg->VF,sub_zero->VN,neg_lt_neg_iff->VU,toNat_natCast->V7,not_lt->Wu,neg_inj->Xx,le_antisymm->XO,natCast_mul->ZT,ne_of_lt->aaP
open PySem.F renaming slot_dict_keyiterator_next->zR,called_set->z4,typeOf_object_class->WJ,excAttr_ValueError->Xl,args_tuple_add_2->XJ,args_dict_keyiterator_next_1->XM,plainAttrs_list->XQ,entry_tuple_add->XR,entry_dict_keyiterator_next->XS,slot_tuple_add->X1,slot_tuple_index->Ys,slot_list_getattribute->Yt,slot_list_append->Yu,slot_gs_get->Yv,slot_list_index->YG,slot_dict_iter->aab,slot_int_rmul->aal,slot_dict_len->aam
open PySem.NameKind renaming free->H9,cell->Zl
open PyProof.Rows renaming callWith_type1->Ts,slot_tuple_getitem->Uy,seqObj->Vt,envOfC->Vu,IsTup->Vv,kindOf->VS,room_in_shaped->Wa,StrsAre->Wl,AllBare->WK,entry_list_sort->Yf,slot_list_sort->Yx,args_list_sort->Yy,Subscript_->Yz,subscriptTail->YU,strKind_oneLt->YV,subscriptTail_builtinR->Zp,keyKind_strs->Zq,arrOf->ZJ,IntsAre->aap,list_sort_treeK->aa6,get?_update_seq->aa7,callWith_builtin1->aa8,tail_any->abj,sortedHeap_old->abk,slicePart_none->abl,sortedHeap_at->abv,listUpdate_at->abw
open PySem.Builtin.Slice renaming slicePlaces->UC,sliceAdjust->Vr,sliceApplied->WQ,slicePartIndex->aaJ,sliceFields->aaK
open PyProof.Rows.F renaming plain_set_update_loop->UD,entry_set_update_loop->V1
open PySem.Builtin.Tuple renaming tupleExact->UM,tupleItemsOf->aaI
open Prod renaming ext_iff->US,ext->ZS,snd->abx
open List.cons renaming injEq->UW
open True renaming intro->Vj
open PySem.Around renaming under_plainId->Vl
open PySem.Obj renaming mapSeq->Vq,data_mapFields->Zk,mapFields->aai
open Classical renaming byContradiction->VG
open PySem.Calls renaming call_function_entry->VR,Name_function_global->XN,evalArgs_plain->Yw
open Prod.mk renaming injEq->VT
open PySem.Txt renaming join->Wf,mul->Yp
open PySem.Builtin.Dict_items renaming ownsTuple->Wk
open Option.some renaming injEq->WC
open PySem.W.Looks renaming of_pure->Xa,ld->Z9
open PySem.Builtin.Dict renaming updateFrom->Xb,pairItems->Xi,showsAll->Xm,selfAndRest->aa2,pendingCount->aa3,dictSlotNone->aa4,addKeywords->aa5
open PySem.Heap.IsSliceOf renaming new->Xn
open Or renaming inr->Xq,inl->Xr
open PySem.Spec renaming same->XG
open PySem.Heap.SameBut renaming update->XH
open PySem.PassesOwn renaming never->YF
open ForInStep renaming yield->YK
open PySem.Code renaming quiet_builtin->Y2
open PyProof.Rows.IsTup renaming new->Zr
open PySem.Builtin.Frozenset renaming updateFrom->ZI
open Std.Legacy.Range renaming size->ZP,forIn_eq_forIn_range'->ZQ
open PySem.Heap.UpToSlots renaming of_keeps->aak
open PySem.CmpOp renaming NotIn->aan,In->abh
open PyProof.Rows.SortSt renaming mk'->aao
open PySem.EqMixed renaming eq_str_int->aaE,eq_str_bool->aaF,eq_int_str->aaG,eq_bool_str->aaH
open PySem.Builtin.Range renaming rangeSize->aaL
open PySem.W.WData renaming int->aaR
open PySem.SeqAt.RcNeAt renaming lists_lengths->aaS
open PySem.EqNone renaming eq_str_none->aaT,eq_none_str->aaU,eq_none_none->aaV,eq_none_int->aaW,eq_none_bool->aaX,eq_int_none->aaY,eq_bool_none->aaZ
open PySem.Builtin.List renaming listTooLong->aa0,listFitsIndex->aa1
open PySem.Heap.DictOf renaming new->abg
open PySem.SeqAt.RcAt renaming lists_lengths->abr
open PySem.SeqAt.EqAt renaming str_int->abt,int_str->abu
open List.Nodup renaming length_le_of_subset->aby
open And renaming intro->abz
open PySem PySem.Spec PyProof.Rows
noncomputable section
namespace L2
theorem nO{b:Type}{a:b}{P:Prop}(h:none=some a):P:=by cases h
theorem sO{b:Type}{a c:b}(h:some a=some c):a=c:=by cases h;rfl
theorem sP{e f:Type}{a c:e}{b d:f}(h:some (a,b)=some (c,d)):a=c/\b=d:=by cases h;exact⟨rfl,rfl⟩
inductive OB {α β γ:Type}(o:Option (α×β)) (g:α×β->Option γ) (r:γ):Prop
 | mk (a:α) (b:β) (e:o=some (a,b)) (h:g (a,b)=some r)
inductive OA {α γ:Type}(o:Option α) (g:α->Option γ) (r:γ):Prop
 | mk (a:α) (e:o=some a) (h:g a=some r)
theorem oB{a b c:Type}{o:Option (a×b)}{g:a×b->Option c}{r:c}(h:o.bind g=some r):OB o g r:=by
 cases o with
 | none=>cases h
 | some p=>exact⟨p.1,p.2,rfl,h⟩
theorem oA{a b:Type}{o:Option a}{g:a->Option b}{r:b}(h:o.bind g=some r):OA o g r:=by
 cases o with
 | none=>cases h
 | some p=>exact⟨p,rfl,h⟩
theorem oM{a b:Type}{o:Option a}{g:a->b}{r:b}(h:o.map g=some r):OA o (fun x=>some (g x)) r:=by
 cases o with
 | none=>cases h
 | some p=>exact⟨p,rfl,h⟩
theorem oN{a b c:Type}{o:Option (a×b)}{g:a×b->c}{r:c}(h:o.map g=some r):OB o (fun x=>some (g x)) r:=by
 cases o with
 | none=>cases h
 | some p=>exact⟨p.1,p.2,rfl,h⟩
abbrev Key:=Sum Int eA
noncomputable def jA:Key->bR->Bool
 | .inl k,v=>aah k v
 | .inr x,v=>ZR x v
noncomputable def KD(w:nE):Key->Int
 | .inl k=>hashInt k
 | .inr x=>hashStr w x
theorem iL:∀{k:Key}{v:bR},jA k v=true->(∃i t,k=W9 i/\v=V' i t)\/(∃x t,k=rp x/\v=NN x t)
 | .inl i,v,h=>by
  obtain⟨t,e⟩:=Value.isInt_shape h;exact .inl ⟨i,t,rfl,e⟩
 | .inr x,v,h=>by
  obtain⟨t,e⟩:=Value.isStrOf_shape h;exact .inr ⟨x,t,rfl,e⟩
theorem K2(i:Int)(t:Tok):jA (.inl i) (.int i t)=true:=by simp[jA,aah]
theorem Bm(x:eA)(t:Tok):jA (.inr x) (.str x t)=true:=by simp[jA,ZR]
theorem KA(a b:Int):decide ((W9 a:Key)=W9 b)=(a==b):=by
 grind
theorem OD(a b:eA):decide ((rp a:Key)=rp b)=decide (a=b):=by
 simp
theorem Jn(a:Int)(b:eA):decide ((W9 a:Key)=rp b)=false:=decide_eq_false (fun q=>nomatch q)
theorem HM(a:eA)(b:Int):decide ((rp a:Key)=W9 b)=false:=decide_eq_false (fun q=>nomatch q)
def cG(prog:iN)(w:nE):PySem.KeyKind prog w Key where
 is:=jA
 hash:=KD w
 inj:=fun v a b g f=>by
  rcases iL g with⟨i,t,rfl,rfl⟩|⟨x,t,rfl,rfl⟩
  ·rcases iL f with⟨j,u,rfl,e⟩|⟨y,u,rfl,e⟩
   ·injection e with c _;rw[c]
   ·exact nomatch e
  ·rcases iL f with⟨j,u,rfl,e⟩|⟨y,u,rfl,e⟩
   ·exact nomatch e
   ·injection e with c _;rw[c]
 byValue:=fun k v h=>by
  rcases iL h with⟨i,t,rfl,rfl⟩|⟨x,t,rfl,rfl⟩<;>rfl
 pyHash:=fun d h=>by
  rcases iL d with⟨i,t,rfl,rfl⟩|⟨x,t,rfl,rfl⟩
  ·exact wpAny_pyHash_int h
  ·exact wpAny_pyHash_str h
 eqBool:=fun l d h=>by
  rcases iL l with⟨i,t,rfl,rfl⟩|⟨x,t,rfl,rfl⟩
  ·rcases iL d with⟨j,u,rfl,rfl⟩|⟨y,u,rfl,rfl⟩
   ·rw[KA] at h;exact aat h
   ·rw[Jn] at h;exact abu i t y u _ _ _ _ h
  ·rcases iL d with⟨j,u,rfl,rfl⟩|⟨y,u,rfl,rfl⟩
   ·rw[HM] at h;exact abt x t j u _ _ _ _ h
   ·rw[OD] at h;exact Vz h
 «strs»:=fun k x t v h=>by
  rcases iL h with⟨i,u,rfl,e⟩|⟨y,u,rfl,e⟩
  ·exact nomatch e
  ·injection e with c _
   subst c;cases v<;>rfl
theorem Ql(prog:iN)(w:nE)(i:Int)(t:Tok):(cG prog w).is (.inl i) (.int i t)=true:=K2 i t
theorem M0(prog:iN)(w:nE)(x:eA)(t:Tok):(cG prog w).is (.inr x) (.str x t)=true:=Bm x t
inductive V where
 | aB|bl (b:Bool)|int (i:Int)|str (x:eA)|iB (b:Array UInt8)|xc (b:UInt64)|ref (a:dR)|ty (n:String)
 deriving DecidableEq
def RelV:V->bR->Prop
 | .aB,u=>u=qo
 | .bl b,u=>u=xr b
 | .int i,u=>∃t,u=V' i t
 | .str x,u=>∃t,u=NN x t
 | .iB b,u=>∃t,u=Value.bytes b t
 | .xc b,u=>∃t,u=Value.float b t
 | .ref a,u=>u=uy a
 | .ty n,u=>u=YS n
abbrev aD:List V->List bR->Prop:=Vp RelV
theorem aD.length{xs:List V}{us:List bR}(r:aD xs us):xs.length=us.length:=Paired.length r
theorem aD.get:∀{xs:List V}{us:List bR}{i:Nat}{x:V},aD xs us->xs[i]?=some x->∃u,us[i]?=some u/\RelV x u
 | _,_,_,_,.nil,e=>by simp at e
 | _,_,0,_,.cons r _,e=>by simp at e;subst e;exact⟨_,rfl,r⟩
 | _,_,i+1,x,.cons _ t,e=>by
  obtain⟨u,a,b⟩:=aD.get t (e)
  exact⟨u,by simpa using a,b⟩
theorem aD.set{x:V}{u:bR}(r:RelV x u):∀{xs:List V}{us:List bR}(i:Nat),aD xs us->aD (xs.set i x) (us.set i u)
 | _,_,_,.nil=>.nil
 | _,_,0,.cons _ t=>.cons r t
 | _,_,i+1,.cons q t=>.cons q (aD.set r i t)
theorem aD.append:∀{xs ys:List V}{us a:List bR},aD xs us->aD ys a->aD (xs++ys) (us++a)
 | _,_,_,_,.nil,s=>s
 | _,_,_,_,.cons r t,s=>.cons r (aD.append t s)
theorem aD.take:∀{xs:List V}{us:List bR}(n:Nat),aD xs us->aD (xs.take n) (us.take n)
 | _,_,0,_=>.nil
 | _,_,_+1,.nil=>.nil
 | _,_,n+1,.cons r t=>.cons r (aD.take n t)
theorem aD.drop:∀{xs:List V}{us:List bR}(n:Nat),aD xs us->aD (xs.drop n) (us.drop n)
 | _,_,0,r=>r
 | _,_,_+1,.nil=>.nil
 | _,_,n+1,.cons _ t=>aD.drop n t
def jy:Option V->Option bR->Prop
 | some v,some u=>RelV v u
 | none,none=>True
 | _,_=>False
def KV{a:Type}:List (a×V)->List (a×bR)->Prop:=Vp fun (p:a×V) (q:a×bR)=>p.1=q.1/\RelV p.2 q.2
noncomputable def kV:Key->V
 | .inl i=>.int i
 | .inr x=>.str x
inductive HO where
 /-- a list -/
 | lst (xs:List V)
 /-- a tuple (never changes) -/
 | tup (xs:List V)
 /-- a dict whose keys are ints and texts;one whose keys are tuples of ints and texts (the empty one is both) -/
 | dK (kvs:List (Key×V))|dT (kvs:List (List Key×V))
 /-- a set of ints: its members,its size -/
 | set (S:Int->Bool) (n:Nat)
 /-- an instance of the class at C,its dict at dx,its attributes -/
 | ins (C dx:dR) (fs:List (eA×V))
 /-- the dict of the instance at x -/
 | own (x:dR)
 /-- the dict of an exception -/
 | xd (fs:List (eA×V))
 /-- a bound method,f of x -/
 | met (f x:dR)
 /-- a range object lo,lo+1,.. below hi -/
 | pG (lo hi:Int)
 /-- a thing that is known to the object (the script;a dict while a loop walks it): read,never written while it is so -/
 | a9 (o:wm) (u:HO)
 /-- a code object's table -/
 | kF (ps:Array bR)
 /-- any other thing,by what is true of its one object (a def of one's own: SetO a S n:=HO.ext fun h=>..) -/
 | ext (φ:nS->Prop)
abbrev Hp:=dR->Option HO
noncomputable def upd(H:Hp)(a:dR)(o:HO):Hp:=fun b=>if b=a then some o else H b
theorem aU{H:Hp}{a:dR}{o:HO}:upd H a o a=some o:=by unfold upd;rw[if_pos rfl]
theorem aw{H:Hp}{a b:dR}{o:HO}(h:b≠a):upd H a o b=H b:=by unfold upd;rw[if_neg h]
theorem Lg{H:Hp}{a:dR}{o u:HO}:upd (upd H a o) a u=upd H a u:=by
 funext b;delta upd;split<;>rfl
theorem Jw{H:Hp}{a b:dR}{o u:HO}(h:H a=some o)(h':H b=some u)(d:o≠u):a≠b:=by
 grind
theorem dh{H:Hp}{a b:dR}{o:HO}(h:H a=some o)(h':H b=none):a≠b:=by
 intro e;subst e;rw[h] at h';contradiction
section
variable(P:iN)(w:nE)
def cm(H:Hp)(h:nS)(a:dR):HO->Prop
 | .lst xs=>xs.length<=dk/\∃(its:List bR) (n:Nat),aD xs its/\h.get? a=some {cls:=.type "list",data:=.seq its.toArray n}
 | .tup xs=>xs.length<=dk/\∃its:List bR,aD xs its/\Vv h a its.toArray
 | .dK kvs=>kvs.length<=dk/\(a==Sa)=false/\∃vs,KV kvs vs/\h.DictOf (cG P w) a vs
 | .dT kvs=>kvs.length<=dk/\(a==Sa)=false/\∃xs:List (List Key×dR×bR),
   Vp (fun (p:List Key×V) (q:List Key×dR×bR)=>p.1=q.1/\H q.2.1=some (.tup (p.1.map kV))/\RelV p.2 q.2.2) kvs xs /\
   ∃o e ep,h.get? a=some o/\o.ExactDict/\o.data=.dict e ep/\e.toList=xs.map (entryOfKey (XY (cG P w)))/\(xs.map (·.1)).Nodup
 | .set S n=>h.SetOf (intKind P w) a S n
 | .ins C c fs=>H c=some (.own a)/\fs.length<=1000/\c≠a/\h.get? a=some (W.instObj C c) /\
   ∃b,h.Ns1 c b/\(∀f,jy (fs.lookup f) (b f))/\PySem.Within b (fs.map (·.1))
 | .own _=>∃o,h.get? a=some o
 | .xd fs=>∃b,h.Ns1 a b/\∀f,jy (fs.lookup f) (b f)
 | .pG lo j=>∃t u v,h.get? a=some {cls:=.type "range",data:=.fields #[.int lo t,.int j u,.int 1 v]}
 | .a9 o u=>h.get? a=some o/\cm H h a u
 | .kF k=>h.get? a=some {cls:=.none,data:=.fields k}
 | .met f x=>h.get? a=some (Zi (.ref f) (.ref x))
 | .ext d=>d h/\(∃o,h.get? a=some o)/\∀g i:nS,d g->(∀o,g.get? a=some o->i.get? a=some o)->d i
def bP(H:Hp)(h:nS):Prop:=∀a o,H a=some o->cm P w H h a o
end
section
variable{P:iN}{w:nE}{H H':Hp}{h h':nS}{a:dR}{o:HO}{x e:dR}{o':HO}
theorem cm.lt(x:cm P w H h a o):a<h.objs.size:=by
 cases o with
 | lst xs=>obtain⟨_,_,_,_,e⟩:=x;exact eS e
 | tup xs=>obtain⟨_,_,_,p⟩:=x;exact p.lt
 | dK kvs=>obtain⟨_,_,_,_,o,_,_,e,_⟩:=x;exact eS e
 | dT kvs=>obtain⟨_,_,_,_,o,_,_,e,_⟩:=x;exact eS e
 | set S n=>obtain⟨o,_,_,_,e,_⟩:=x;exact eS e
 | ins C dx fs=>obtain⟨_,_,_,e,_⟩:=x;exact eS e
 | own y=>obtain⟨_,e⟩:=x;exact eS e
 | xd fs=>obtain⟨_,⟨_,_,_,e,_⟩,_⟩:=x;exact eS e
 | pG lo hi=>obtain⟨_,_,_,e⟩:=x;exact eS e
 | a9 ob u=>obtain⟨e,_⟩:=x;exact eS e
 | kF ps=>exact eS (x)
 | met f y=>exact eS (x)
 | ext φ=>obtain⟨_,⟨_,e⟩,_⟩:=x;exact eS e
theorem Paired.nH{c d:Type}{F G:c->d->Prop}:∀{l₁:List c}{l₂:List d},Vp F l₁ l₂->(∀a b,F a b->G a b)->Vp G l₁ l₂
 | _,_,.nil,_=>.nil
 | _,_,.cons r t,f=>.cons (f _ _ r) (Paired.nH t f)
theorem cm.fW(x:cm P w H h a o)(k:∀b u,(b=a\/H b=some (.own a))->h.get? b=some u->h'.get? b=some u)
 (ho:∀b,H b=some (.own a)->H' b=some (.own a))(m:∀b xs,H b=some (.tup xs)->H' b=some (.tup xs)):cm P w H' h' a o:=by
 induction o with
 | lst xs=>obtain⟨z,its,n,r,e⟩:=x;exact⟨z,its,n,r,k _ _ (.inl rfl) e⟩
 | tup xs=>obtain⟨z,its,r,ob,e,c⟩:=x;exact⟨z,its,r,ob,k _ _ (.inl rfl) e,c⟩
 | dK kvs=>obtain⟨z,y,vs,r,ob,g,ep,e,c⟩:=x;exact⟨z,y,vs,r,ob,g,ep,k _ _ (.inl rfl) e,c⟩
 | dT kvs =>
  obtain⟨z,y,xs,r,ob,g,ep,e,c⟩:=x;exact⟨z,y,xs,Paired.nH r fun p q z=>⟨z.1,m _ _ z.2.1,z.2.2⟩,ob,g,ep,k _ _ (.inl rfl) e,c⟩
 | set S n=>obtain⟨ob,g,ep,t,e,c⟩:=x;exact⟨ob,g,ep,t,k _ _ (.inl rfl) e,c⟩
 | ins C dx fs =>
  obtain⟨d,z,ne,e,i,⟨j,g,ep,s,c⟩,r⟩:=x;exact⟨ho _ d,z,ne,k _ _ (.inl rfl) e,i,⟨j,g,ep,k _ _ (.inr d) s,c⟩,r⟩
 | own y=>obtain⟨ob,e⟩:=x;exact⟨ob,k _ _ (.inl rfl) e⟩
 | xd fs=>obtain⟨i,⟨j,g,ep,e,c⟩,r⟩:=x;exact⟨i,⟨j,g,ep,k _ _ (.inl rfl) e,c⟩,r⟩
 | pG lo hi=>obtain⟨t,u,v,e⟩:=x;exact⟨t,u,v,k _ _ (.inl rfl) e⟩
 | a9 ob u A=>obtain⟨e,q⟩:=x;exact⟨k _ _ (.inl rfl) e,A q⟩
 | kF l =>
  have e:=x;exact k a _ (.inl rfl) e
 | met f y =>
  have e:=x;exact k a _ (.inl rfl) e
 | ext φ=>obtain⟨p,⟨o,e⟩,st⟩:=x;exact⟨st _ _ p fun o q=>k _ _ (.inl rfl) q,⟨o,k _ _ (.inl rfl) e⟩,st⟩
theorem bP.lt(x:bP P w H h)(e:H a=some o):a<h.objs.size:=(x a o e).lt
theorem bP.fresh(x:bP P w H h)(e:h.objs.size<=a):H a=none:=by
 cases q:H a with
 | none=>rfl
 | some u=>exact absurd (hI (x.lt q) e) (wa _)
theorem bP.kept(x:bP P w H h)(k:∀b u,h.get? b=some u->h'.get? b=some u):bP P w H h':=fun a o e =>
 (x a o e).fW (fun b u _ q=>k b u q) (fun _ q=>q) fun _ _ q=>q
theorem bP.laid(x:bP P w H h)(k:∀b u,h.get? b=some u->h'.get? b=some u)(i:h.objs.size<=a)(d:cm P w (upd H a o) h' a o):bP P w (upd H a o) h':=fun b u e=>by
 have f:=x.fresh i
 by_cases g:b=a
 ·subst g;rw[aU] at e;obtain rfl:=sO e;exact d
 ·rw[aw g] at e;exact (x b u e).fW (fun c v _ q=>k c v q) (fun c q=>by rw[aw (dh q f)];exact q) fun c xs q=>by rw[aw (dh q f)];exact q
def Rd(H:Hp)(a:dR)(u:HO):Prop:=H a=some u\/∃o,H a=some (.a9 o u)
theorem Rd.of{H:Hp}{a:dR}{u:HO}(h:H a=some u):Rd H a u:=.inl h
theorem Rd.ok{P:iN}{w:nE}{H:Hp}{h:nS}{a:dR}{u:HO}(r:Rd H a u)(x:bP P w H h):cm P w H h a u:=by
 rcases r with r|⟨o,r⟩
 ·exact x a u r
 ·obtain⟨_,q⟩:=x a _ r;exact q
def oC:Option HO->Prop
 | some (.lst _)=>True
 | some (.dK _)=>True
 | some (.dT _)=>True
 | some (.set _ _)=>True
 | some (.ins _ _ _)=>True
 | some (.ext _)=>True
 | _=>False
theorem bP.write(ok:bP P w H h)(g:oC (H x))(m:e=x\/H e=some (.own x))(k:∀b u,b≠e->h.get? b=some u->h'.get? b=some u)(n:∃u,h'.get? e=some u)
 (p:cm P w (upd H x o') h' x o'):bP P w (upd H x o') h':=fun b u q=>by
 have f:∀c y,H c=some (.own y)->c≠x:=fun c y r z=>by subst z;rw[r] at g;exact g
 have l:∀c xs,H c=some (.tup xs)->c≠x:=fun c xs r z=>by subst z;rw[r] at g;exact g
 by_cases i:b=x
 ·subst i;rw[aU] at q;obtain rfl:=sO q;exact p
 ·rw[aw i] at q
  by_cases d:b=e
  ·have s:H b=some (.own x):=by
    rcases m with z|z
    ·exact absurd (d.trans z) i
    ·rw[d];exact z
   rw[q] at s;obtain rfl:=sO s;obtain⟨v,t⟩:=n;exact⟨v,by rw[d];exact t⟩
  ·refine (ok b u q).fW (fun c v j r=>k c v ?_ r) (fun c r=>by rw[aw (f c b r)];exact r) fun c xs r=>by rw[aw (l c xs r)];exact r
   rcases j with rfl|j
   ·exact d
   ·rintro rfl
    rcases m with z|z
    ·exact f c b j z
    ·rw[j] at z;cases z;exact i rfl
end
structure Un (fs ex:List dR) (H H':Hp) (h h':nS):Prop where
 keep:∀b o,h.get? b=some o->H b=none->b∉fs->b∉ex->h'.get? b=some o
 slot:∀b o,h.get? b=some o->H b=none->b∈fs->b∉ex->∃sl,h'.get? b=some {o with slots:=sl}
 free:∀b o,h.get? b=some o->H b=none->b∉ex->H' b=none
 there:∀b o,h.get? b=some o->b∉ex->∃o',h'.get? b=some o'
 gJ:∀b xs,H b=some (.tup xs)->H' b=some (.tup xs)
 gB:∀b o u,H b=some (.a9 o u)->H' b=some (.a9 o u)
 gN:∀b ps,H b=some (.kF ps)->∃more,H' b=some (.kF (ps++more))
section
variable{fs fs' ex ex':List dR}{H H1 H2:Hp}{h h1 h2 h':nS}{a x e:dR}{o:HO}
theorem Un.any(u:Un fs ex H H1 h h1){b:dR}{ob:wm}(q:h.get? b=some ob)(n:H b=none)(c:b∉ex):∃sl,h1.get? b=some {ob with slots:=sl}:=by
 by_cases d:b∈fs
 ·exact u.slot b ob q n d c
 ·exact⟨ob.slots,u.keep b ob q n d c⟩
theorem Un.kept(k:∀b u,h.get? b=some u->h'.get? b=some u):Un fs ex H H h h' :=
 ⟨fun b ob q _ _ _=>k b ob q,fun b ob q _ _ _=>⟨ob.slots,k b ob q⟩,fun _ _ _ n _=>n,fun b ob q _=>⟨ob,k b ob q⟩,fun _ _ q=>q,fun _ _ _ q=>q,fun _ ps q=>⟨#[],by rw[q];simp⟩⟩
theorem Un.refl:Un fs ex H H h h:=Un.kept fun _ _ q=>q
theorem Un.laid(k:∀b u,h.get? b=some u->h'.get? b=some u)(d:h.objs.size<=a)(c:H a=none):Un fs ex H (upd H a o) h h' where
 keep:=fun b u q _ _ _=>k b u q
 slot:=fun b u q _ _ _=>⟨u.slots,k b u q⟩
 free:=fun b u q n _=>by rw[aw (gs (hI (eS q) d))];exact n
 there:=fun b u q _=>⟨u,k b u q⟩
 gJ:=fun b xs q=>by rw[aw (dh q c)];exact q
 gB:=fun b u xs q=>by rw[aw (dh q c)];exact q
 gN:=fun b ps q=>⟨#[],by rw[aw (dh q c),q];simp⟩
theorem Un.write(c:oC (H x))(j:e=x\/H e=some (.own x))(k:∀b u,b≠e->h.get? b=some u->h'.get? b=some u)(f:∃u,h'.get? e=some u):Un fs ex H (upd H x o) h h':=by
 have g:∀b,H b=none->b≠x:=fun b n z=>by subst z;rw[n] at c;exact c
 have i:∀b,H b=none->b≠e:=fun b n z=>by
  subst z
  rcases j with r|r
  ·exact g b n r
  ·rw[n] at r;exact nO r
 have hm:∀b u,H b=some u->¬oC (some u)->b≠x:=fun b u q nm z=>by subst z;rw[q] at c;exact nm c
 refine⟨fun b u q n _ _=>k b u (i b n) q,fun b u q n _ _=>⟨u.slots,k b u (i b n) q⟩,fun b u q n _=>by rw[aw (g b n)];exact n,fun b u q _=>?_,
  fun b xs q=>by rw[aw (hm b _ q fun z=>z)];exact q,fun b u xs q=>by rw[aw (hm b _ q fun z=>z)];exact q,fun b ps q=>⟨#[],by rw[aw (hm b _ q fun z=>z),q];simp⟩⟩
 by_cases d:b=e
 ·subst d;exact f
 ·exact⟨u,k b u d q⟩
end
noncomputable def fP(h:nS)(H:Hp):List Addr:=(ka h.objs.size).filter fun a=>(H a).isSome
def kf(h:nS)(H:Hp):Heap:=Z6 h (fP h H)
theorem Pb(h:nS)(H:Hp):(kf h H).objs.size=h.objs.size:=W.hideAll_size _ _
theorem Mq{h:nS}{H:Hp}{b:dR}{o:wm}(e:h.get? b=some o)(n:H b=none):(kf h H).get? b=some o :=
 We _ e fun hm=>by
  have q:=(gf.mp hm).2;rw[n] at q;simp at q
theorem Qh{h:nS}{H:Hp}{b:dR}{o:wm}(e:(kf h H).get? b=some o):h.get? b=some o/\H b=none:=by
 have a:=YQ (fP h H) e;refine⟨a,?_⟩;cases q:H b with
 | none=>rfl
 | some x =>
  have hm:b∈fP h H:=gf.mpr ⟨Vc.mpr (eS a),by simp[q]⟩
  have z:(kf h H).get? b=none:=Ye (fP h H) hm;rw[z] at e;exact nO e
noncomputable def ot(g h:nS)(L:dR):List (dR×wm):=(ka h.objs.size).filterMap fun a=>if a=L\/(g.get? a).isSome=true then none else (h.get? a).map fun o=>(a,o)
theorem ve{g h:nS}{L a:dR}{o:wm}(c:a≠L)(d:g.get? a=none)(b:h.get? a=some o):(a,o)∈ot g h L :=
 z9.mpr ⟨a,Vc.mpr (eS b),by simp[c,d,b]⟩
theorem Og{g h:nS}{L:dR}{p:dR×wm}(c:p∈ot g h L):p.1≠L/\g.get? p.1=none/\h.get? p.1=some p.2:=by
 obtain⟨b,_,e⟩:=z9.mp c;split at e
 ·exact nO e
 ·rename_i a;cases q:h.get? b with
  | none=>rw[q] at e;simp at e
  | some u =>
   rw[q] at e;simp at e;subst e;refine⟨fun z=>a (.inl z),?_,q⟩
   cases r:g.get? b with
   | none=>rfl
   | some v=>exact (a (.inr (by simp[r]))).elim
theorem B2{g h:nS}{L:dR}:News g L h (ot g h L):=fun p d=>let ⟨a,b,c⟩:=Og d;⟨c,a,b⟩
structure Mod (K:fj) (mg:eA->Option bR) (base:nS):Prop where
 qE:K.In base
 glob:base.Ns hE mg
 blt:∃mb,base.Ns Z5 mb/\∀x:eA,x≠"__name__"->mb x=Hz x
 nolimit:base.NoLimit
structure Cx where
 prog:iN
 w:nE
 K:fj
 mg:eA->Option bR
 base:nS
 A:n6
 N:List eA
 cE:dr
 pZ:Hp
 env:Xo
 outer:List Xo
 stack:List Xo
 ex:List dR
 fn:eA->Bool
 calm:Bool
 pn:List (dR×wm)
 xe:bR->dr->Prop
noncomputable def cV(l:List Xo):List Addr:=l.filterMap (·.frame)
abbrev bb(x:eA):Prop:=(x==("__debug__":eA))=false
abbrev cH(x:eA):Prop:=(x==("__classdict__":eA))=false
abbrev bp(X:Cx)(e:gi)(a:List gi):Prop:=lq (e::a) X.env=(false,eval e X.env)::lq a X.env
abbrev pU(X:Cx)(p:u3)(e:gi):Prop:=((KX p (lq [e] X.env)).all (fun x=>!x.1)&&(backToKw p (keywordEach [] X.env)).all (fun x=>x.1.isSome)&&decide ([e].length+([]:List aaj).length+(if ([]:List aaj).isEmpty then 0 else 1)<30))=true
abbrev Cx.fs(X:Cx):List Addr:=cV X.outer
def cc(a:Ux)(x:eA):Prop:=a.names.lookup x=some .local\/a.names.lookup x=some .cell\/a.names.lookup x=some .free
def Loc(a:Ux)(x:eA):Prop:=a.names.lookup x=some .local\/a.names.lookup x=some .cell
def Look(env:Xo)(h:nS)(m:eA->Option bR)(x:eA)(u:bR):Prop :=
 (env.kindOf x=some .local/\m x=some u)\/((env.kindOf x=some .cell\/env.kindOf x=some .free)/\∃c,env.cells.lookup x=some c/\h.IsCell c (some u))
structure Cx.Ok (X:Cx):Prop where
 mod:Mod X.K X.mg X.base
 kind:X.env.scope.kind=.function
 glob:X.env.globals=hE
 blt:X.env.builtins=Z5
 above:X.cE.heap.objs.size<=X.env.locals
 inj:∀x y c,X.env.cells.lookup x=some c->X.env.cells.lookup y=some c->x=y
 has:∀x,(X.env.kindOf x=some .cell\/X.env.kindOf x=some .free)->∃c,X.env.cells.lookup x=some c
 km:∀x c,X.fn x=true->X.env.cells.lookup x=some c->X.cE.heap.objs.size<=c
 hd:X.calm=true->X.A.handled=none
 frames:X.A.frames=some X.stack
 ji:X.stack=X.outer\/(X.stack=X.env::X.outer/\X.env.frame=some X.env.locals)
 p9:∀b∈X.ex,b≠X.env.locals/\∀x c,X.env.cells.lookup x=some c->c≠b
 bs:∀b o,X.base.get? b=some o->X.cE.heap.get? b=some o/\X.pZ b=none
 iS:X.base.objs.size<=X.cE.heap.objs.size
 kG:∀b o,X.base.get? b=some o->b∉X.ex
 lF:∀b∈X.ex,b∉X.fs
 gp:X.cE.heap.FunFrames X.base X.outer
 jM:∀b∈X.fs,X.pZ b=none
structure Inv (X:Cx) (pins:List (dR×wm)) (σ:List (Option V)) (H:Hp) (s:dr):Prop where
 ok:X.Ok
 os:s.os=X.cE.os
 bare:WK s.gens
 base:Un X.fs X.ex X.pZ H X.cE.heap s.heap
 loc:∃m,s.heap.Ns X.env.locals m/\∀(i:Nat) (x:eA) (v:V),X.N[i]?=some x->σ[i]?=some (some v)->cc X.env.scope x->∃u,RelV v u/\Look X.env s.heap m x u
 cell:∀x c,X.env.cells.lookup x=some c->∃v,s.heap.IsCell c v
 free:H X.env.locals=none
 d9:∀x c,X.env.cells.lookup x=some c->H c=none
 pin:∀p∈X.pn++pins,s.heap.get? p.1=some p.2/\H p.1=none/\p.1≠X.env.locals/\p.1∉X.fs/\∀v,p.2.data≠.cell v
 ai:bP X.prog X.w H s.heap
 len:σ.length=X.N.length
section
variable{X:Cx}{pins:List (dR×wm)}{σ:List (Option V)}{H H':Hp}{s:dr}{h':nS}
theorem Cx.Ok.G3(ok:X.Ok){b:dR}{o:wm}(e:X.base.get? b=some o):b∉X.fs:=fun a=>by
 have:=(ok.gp.mem a).1;rw[e] at this;contradiction
theorem Inv.bs(I:Inv X pins σ H s):∀b o,X.base.get? b=some o->s.heap.get? b=some o/\H b=none:=fun b o e =>
 ⟨I.base.keep b o (I.ok.bs b o e).1 (I.ok.bs b o e).2 (I.ok.G3 e) (I.ok.kG b o e),I.base.free b o (I.ok.bs b o e).1 (I.ok.bs b o e).2 (I.ok.kG b o e)⟩
theorem Inv.bk(I:Inv X pins σ H s):∀b o,X.base.get? b=some o->s.heap.get? b=some o:=fun b o e=>(I.bs b o e).1
theorem Inv.mod(I:Inv X pins σ H s):Mod X.K X.mg X.base:=I.ok.mod
theorem Inv.dZ(I:Inv X pins σ H s):X.K.In s.heap:=I.ok.mod.qE.keeps I.bk
theorem Inv.lt(I:Inv X pins σ H s):X.env.locals<s.heap.objs.size:=let ⟨_,a,_⟩:=I.loc;a.lt
theorem Inv.sz(I:Inv X pins σ H s):X.cE.heap.objs.size<=s.heap.objs.size:=sq I.ok.above (Xd I.lt)
theorem Inv.HS(I:Inv X pins σ H s){a:dR}(h:s.heap.objs.size<=a):a∉X.fs:=fun b=>by
 obtain⟨_,o,ho,_⟩:=I.ok.gp.mem b;exact absurd (hI (eS ho) (sq I.sz h)) (wa _)
theorem Inv.gr(I:Inv X pins σ H s):∀x c,X.env.cells.lookup x=some c->c≠X.env.locals:=fun x c e z=>by
 obtain⟨v,o,ho,hd⟩:=I.cell x c e;obtain⟨m,⟨o',es,ep,a,b,_⟩,_⟩:=I.loc;rw[z,a] at ho;obtain rfl:=sO ho;rw[b] at hd;contradiction
theorem Inv.gp(I:Inv X pins σ H s):s.heap.FunFrames X.base X.outer:=by
 have all:∀(l:List Xo),(∀b∈cV l,b∈X.fs)->X.cE.heap.FunFrames X.base l->s.heap.FunFrames X.base l:=by
  intro l;induction l with
  | nil=>intro _ _;trivial
  | cons env r f =>
   intro hs hl;obtain⟨g,⟨L,o,a,h,ho,hd⟩,i⟩:=hl;have c:=hs L (by unfold cV;rw[WO,a];exact fv)
   obtain⟨sl,e⟩:=I.base.slot L o ho (I.ok.jM L c) c fun z=>I.ok.lF L z c
   exact⟨g,⟨L,_,a,h,e,hd⟩,f (fun b d=>hs b (by unfold cV;rw[WO,a];exact fm _ d)) i⟩
 exact all X.outer (fun _ d=>d) I.ok.gp
theorem Inv.stack(I:Inv X pins σ H s):s.heap.FunFrames X.base X.stack:=by
 rcases I.ok.ji with e|⟨e,a⟩
 ·rw[e];exact I.gp
 ·rw[e];obtain⟨m,b,_⟩:=I.loc;refine .cons (by rw[I.ok.kind];decide) a b ?_ I.gp
  exact Heap.get?_none_of_le (sq I.ok.iS I.ok.above)
theorem Inv.pY(I:Inv X pins σ H s):∀b∈cV X.stack,b∈X.env.locals::X.fs:=fun b a=>by
 rcases I.ok.ji with e|⟨e,c⟩
 ·rw[e] at a;exact fm _ a
 ·rw[e] at a;delta cV at a;simp only[WO,c] at a;exact a
theorem Inv.wo(I:Inv X pins σ H s):∀b∈cV X.stack,H b=none:=fun b a=>by
 rcases ey.mp (I.pY b a) with e|a
 ·rw[e];exact I.free
 ·obtain⟨_,o,ho,_⟩:=I.ok.gp.mem a;exact I.base.free b o ho (I.ok.jM b a) fun z=>I.ok.lF b z a
theorem Inv.step{g':Array XI}{t':Nat}{d':Drawn}{ch:List dR}(I:Inv X pins σ H s)
 (g:∀b∈ch,(b∈X.ex\/X.cE.heap.objs.size<=b)/\b≠X.env.locals/\(∀x c,X.env.cells.lookup x=some c->c≠b)/\∀p∈X.pn++pins,p.1≠b)
 (keep:∀b o,b≠X.env.locals->b∉X.fs->b∉ch->s.heap.get? b=some o->H b=none->h'.get? b=some o)
 (slot:∀b o,b≠X.env.locals->b∈X.fs->b∉ch->s.heap.get? b=some o->H b=none->∃sl,h'.get? b=some {o with slots:=sl})(free:∀b o,b∉ch->s.heap.get? b=some o->H b=none->H' b=none)
 (there:∀b o,b∉ch->s.heap.get? b=some o->∃A,h'.get? b=some A)
 (gJ:∀b xs,H b=some (.tup xs)->H' b=some (.tup xs))(gB:∀b o u,H b=some (.a9 o u)->H' b=some (.a9 o u))(gN:∀b C,H b=some (.kF C)->∃more,H' b=some (.kF (C++more)))
 (J:∀m,s.heap.Ns X.env.locals m->h'.Ns X.env.locals m)(ai:bP X.prog X.w H' h')(K:WK g') :
  Inv X pins σ H' {s with heap:=h',gens:=g',drawn:=d',toks:=t'}:=by
 have D:∀b o,X.cE.heap.get? b=some o->b≠X.env.locals:=fun b o e=>gs (hI (eS e) I.ok.above)
 have t:∀b o,X.cE.heap.get? b=some o->b∉X.ex->b∉ch:=fun b o e a j=>by
  rcases (g b j).1 with z|z
  ·exact a z
  ·exact absurd (hI (eS e) z) (wa _)
 have y:∀x c,X.env.cells.lookup x=some c->∀v,s.heap.IsCell c v->h'.IsCell c v:=fun x c e v ⟨o,ho,hd⟩=>by
  have h:c∉ch:=fun z=>(g c z).2.2.1 x c e rfl
  by_cases E:c∈X.fs
  ·obtain⟨sl,q⟩:=slot c o (I.gr x c e) E h ho (I.d9 x c e);exact⟨_,q,hd⟩
  ·exact⟨o,keep c o (I.gr x c e) E h ho (I.d9 x c e),hd⟩
 refine⟨I.ok,I.os,K,⟨fun b o e n j a=>?_,fun b o e n j a=>?_,fun b o e n a=>?_,fun b o e a=>?_,fun b xs e=>gJ b xs (I.base.gJ b xs e),fun b o xs e=>gB b o xs (I.base.gB b o xs e),fun b C e=>?_⟩,?_,fun x c e=>?_,?_,fun x c e=>?_,fun p F=>?_,ai,I.len⟩
 ·exact keep b o (D b o e) j (t b o e a) (I.base.keep b o e n j a) (I.base.free b o e n a)
 ·obtain⟨sl,f⟩:=I.base.slot b o e n j a;obtain⟨G,B⟩:=slot b _ (D b o e) j (t b o e a) f (I.base.free b o e n a);exact⟨G,B⟩
 ·obtain⟨A,f⟩:=I.base.there b o e a;exact free b A (t b o e a) f (I.base.free b o e n a)
 ·obtain⟨A,f⟩:=I.base.there b o e a;exact there b A (t b o e a) f
 ·obtain⟨L,f⟩:=I.base.gN b C e;obtain⟨M,B⟩:=gN b _ f;exact⟨L++M,by rw[B,Array.append_assoc]⟩
 ·obtain⟨m,N,hl⟩:=I.loc;refine⟨m,J m N,fun i x v f B O=>?_⟩
  obtain⟨u,r,l⟩:=hl i x v f B O;refine⟨u,r,?_⟩
  rcases l with l|⟨k,c,e,z⟩
  ·exact .inl l
  ·exact .inr ⟨k,c,e,y x c e _ z⟩
 ·obtain⟨v,z⟩:=I.cell x c e;exact⟨v,y x c e v z⟩
 ·obtain⟨m,⟨o,_,_,ho,_⟩,_⟩:=I.loc;exact free _ o (fun z=>(g _ z).2.1 rfl) ho I.free
 ·obtain⟨v,o,ho,hd⟩:=I.cell x c e;exact free c o (fun z=>(g c z).2.2.1 x c e rfl) ho (I.d9 x c e)
 ·obtain⟨e,n,ne,nf,d⟩:=I.pin p F;have h:p.1∉ch:=fun z=>(g p.1 z).2.2.2 p F rfl
  exact⟨keep p.1 p.2 ne nf h e n,free p.1 p.2 h e n,ne,nf,d⟩
theorem Inv.un{t':Nat}(I:Inv X pins σ H s)(u:Un X.fs [] H H' s.heap h')(ai:bP X.prog X.w H' h'):Inv X pins σ H' {s with heap:=h',toks:=t'}:=by
 obtain⟨m,⟨o,es,ep,ho,r⟩,_⟩:=id I.loc;obtain⟨sl,g⟩:=u.any ho I.free (by simp)
 exact I.step (ch:=[]) (fun _ z=>nomatch z) (fun b o _ c _ e n=>u.keep b o e n c (by simp)) (fun b o _ c _ e n=>u.slot b o e n c (by simp)) (fun b o _ e n=>u.free b o e n (by simp)) (fun b o _ e=>u.there b o e (by simp)) u.gJ u.gB u.gN (fun m' hm=>by
  obtain⟨o',d,f,a,h⟩:=hm;rw[ho] at a;obtain rfl:=sO a;exact⟨_,d,f,g,h⟩) ai I.bare
theorem Inv.call{g':Array XI}{t':Nat}{d':Drawn}{ch:List dR}(I:Inv X pins σ H s)(u:Un (cV X.stack) ch H H' s.heap h')(ai:bP X.prog X.w H' h')(j:WK g')
 (d:∀b∈ch,(b∈X.ex\/X.cE.heap.objs.size<=b)/\b≠X.env.locals/\(∀x c,X.env.cells.lookup x=some c->c≠b)/\∀p∈X.pn++pins,p.1≠b) :
  Inv X pins σ H' {s with heap:=h',gens:=g',drawn:=d',toks:=t'}:=by
 obtain⟨m,⟨o,es,ep,ho,r⟩,_⟩:=id I.loc;obtain⟨sl,g⟩:=u.any ho I.free fun z=>(d _ z).2.1 rfl
 exact I.step d (fun b o g k a e n=>u.keep b o e n (fun z=>(ey.mp (I.pY b z)).elim g k) a) (fun b o _ _ a e n=>u.any e n a) (fun b o a e n=>u.free b o e n a) (fun b o a e=>u.there b o e a) u.gJ u.gB u.gN (fun m' hm=>by
  obtain⟨o',h,i,f,l⟩:=hm;rw[ho] at f;obtain rfl:=sO f;exact⟨_,h,i,g,l⟩) ai j
theorem Inv.turned{t':Nat}{it:dR}(I:Inv X pins σ H s)(k:∀b o,b≠it->s.heap.get? b=some o->h'.get? b=some o)(g:H it=none)(f:it≠X.env.locals)
 (h:it∈X.ex\/X.cE.heap.objs.size<=it)(i:∀x c,X.env.cells.lookup x=some c->c≠it)(j:∀p∈X.pn++pins,p.1≠it):Inv X pins σ H {s with heap:=h',toks:=t'}:=by
 have d:∀b u,H b=some u->b≠it:=fun b u e z=>by rw[z,g] at e;exact nO e
 refine I.step (ch:=[it]) (fun b l=>?_) (fun b o _ _ a e _=>k b o (fun z=>a (by simp[z])) e) (fun b o _ _ a e _=>⟨o.slots,k b o (fun z=>a (by simp[z])) e⟩) (fun _ _ _ _ n=>n)
  (fun b o a e=>⟨o,k b o (fun z=>a (by simp[z])) e⟩) (fun _ _ e=>e) (fun _ _ _ e=>e) (fun b ps e=>⟨#[],by rw[e];simp⟩) (fun m hm=>?_) (fun b u e=>?_) I.bare
 ·have e:b=it:=by simpa using l
  subst e;exact⟨h,f,i,j⟩
 ·obtain⟨o,t,ep,ho,r⟩:=hm;exact⟨o,t,ep,k _ o (Ne.symm f) ho,r⟩
 ·refine (I.ai b u e).fW (fun c v a q=>k c v ?_ q) (fun _ q=>q) fun _ _ q=>q
  rcases a with z|z
  ·rw[z];exact d b u e
  ·exact d c _ z
theorem Inv.tok(I:Inv X pins σ H s)(t:Nat):Inv X pins σ H {s with toks:=t}:=I.un Un.refl I.ai
theorem Inv.kept{t':Nat}(I:Inv X pins σ H s)(k:∀b u,s.heap.get? b=some u->h'.get? b=some u):Inv X pins σ H {s with heap:=h',toks:=t'}:=I.un (Un.kept k) (I.ai.kept k)
theorem Inv.laid{a:dR}{o:HO}{t':Nat}(I:Inv X pins σ H s)(k:∀b u,s.heap.get? b=some u->h'.get? b=some u)(c:s.heap.objs.size<=a)(d:cm X.prog X.w (upd H a o) h' a o) :
  Inv X pins σ (upd H a o) {s with heap:=h',toks:=t'}:=I.un (Un.laid k c (I.ai.fresh c)) (I.ai.laid k c d)
theorem Inv.write{x e:dR}{o:HO}{t':Nat}(I:Inv X pins σ H s)(c:oC (H x))(d:e=x\/H e=some (.own x))(k:∀b u,b≠e->s.heap.get? b=some u->h'.get? b=some u)(a:∃u,h'.get? e=some u)
 (f:cm X.prog X.w (upd H x o) h' x o):Inv X pins σ (upd H x o) {s with heap:=h',toks:=t'}:=I.un (Un.write c d k a) (I.ai.write c d k a f)
theorem Inv.Bn{a:List (dR×wm)}(I:Inv X pins σ H s)(h:∀p∈a,s.heap.get? p.1=some p.2/\H p.1=none/\p.1≠X.env.locals/\p.1∉X.fs/\∀v,p.2.data≠.cell v):Inv X a σ H s :=
 ⟨I.ok,I.os,I.bare,I.base,I.loc,I.cell,I.free,I.d9,fun p b=>(et.mp b).elim (fun z=>I.pin p (ub _ z)) (h p),I.ai,I.len⟩
theorem vH{N:List eA}(c:N.Nodup){i j:Nat}{x:eA}(a:N[i]?=some x)(b:N[j]?=some x):i=j:=by
 obtain⟨h1,d⟩:=bt.mp a;obtain⟨h2,e⟩:=bt.mp b;exact (um c).mp (d.trans e.symm)
theorem Am{M:Model}{A:n6}{E:bR->dr->Prop}{i:Nat}{x:eA}{v:V}{u:bR}{Q:Unit->dr->Prop}(I:Inv X pins σ H s)(hN:X.N.Nodup)(G:X.N[i]?=some x)(l:Loc X.env.scope x)(r:RelV v u)
 (h:∀s',Inv X pins (σ.set i (some v)) H s'->(∃a,VI a s.heap s'.heap/\(a=X.env.locals\/X.env.cells.lookup x=some a))->Q () s')(hf:X.fn x=true\/X.env.scope.names.lookup x=some .local:=by first|exact .inl rfl|exact .inr rfl|assumption):gW M A (storeName X.env x u) Q E s:=by
 obtain⟨m,T,hl⟩:=id I.loc;have U:(X.env.scope.kind==.class||(X.env.scope.kind==.module&&X.env.locals != X.env.globals))=false:=by rw[I.ok.kind];rfl
 have J:i<σ.length:=by rw[I.len];exact (bt.mp G).1
 have gr:=I.gr;have tracked:∀{a:dR}{h':nS},(∃o,s.heap.get? a=some o/\H a=none)->VI a s.heap h'->bP X.prog X.w H h':=fun {a h'} ha hs b ob e=>by
  obtain⟨_,_,F⟩:=ha;refine (I.ai b ob e).fW (fun c L g q=>(hs.2 c ?_).trans q) (fun _ q=>q) fun _ _ q=>q
  rintro rfl
  rcases g with rfl|g
  ·rw[F] at e;exact nO e
  ·rw[F] at g;exact nO g
 rcases l with B|B
 ·refine wpAny_storeName_local B T (fun h' RH hs=>?_) U
  obtain⟨oL,_,_,RI,_⟩:=id T;refine h _ ⟨I.ok,I.os,I.bare,⟨fun b o e n C l=>?_,fun b o e n C l=>?_,I.base.free,fun b o e l=>?_,I.base.gJ,I.base.gB,I.base.gN⟩,⟨_,RH,fun j y W f t Y=>?_⟩,fun y c e=>?_,I.free,I.d9,fun p Z=>?_,tracked ⟨oL,RI,I.free⟩ hs,by simpa using I.len⟩ ⟨_,hs,.inl rfl⟩
  ·exact (hs.2 b (gs (hI (eS e) I.ok.above))).trans (I.base.keep b o e n C l)
  ·obtain⟨sl,f⟩:=I.base.slot b o e n C l;exact⟨sl,(hs.2 b (gs (hI (eS e) I.ok.above))).trans f⟩
  ·obtain⟨o',f⟩:=I.base.there b o e l;exact⟨o',(hs.2 b (gs (hI (eS e) I.ok.above))).trans f⟩
  ·by_cases D:j=i
   ·subst D;rw[G] at f;obtain rfl:=sO f;rw[lp J] at t;cases t;exact⟨u,r,.inl ⟨B,by simp⟩⟩
   ·rw[kx (Ne.symm D)] at t;obtain⟨u',r',q⟩:=hl j y W f t Y;refine⟨u',r',?_⟩
    rcases q with⟨k,e⟩|⟨k,c,e,z⟩
    ·refine .inl ⟨k,?_⟩;have:y≠x:=fun e=>D (vH hN f (e ▸ G))
     simp[this,e]
    ·exact .inr ⟨k,c,e,z.sameBut hs (gr y c e)⟩
  ·obtain⟨L,z⟩:=I.cell y c e;exact⟨L,z.sameBut hs (gr y c e)⟩
  ·obtain⟨e,n,ne,nf,d⟩:=I.pin p Z;exact⟨(hs.2 p.1 ne).trans e,n,ne,nf,d⟩
 ·have K:X.fn x=true:=by
   rcases hf with z|z
   ·exact z
   ·rw[z] at B;contradiction
  obtain⟨c,g⟩:=I.ok.has x (.inl B);obtain⟨L,z⟩:=I.cell x c g;refine wpAny_storeName_cell I.ok.kind B g z (fun h' P hs=>?_)
  obtain⟨oc,R,RF⟩:=id z;refine h {s with heap:=h'} ⟨I.ok,I.os,I.bare,⟨fun b o e n C l=>?_,fun b o e n C l=>?_,I.base.free,fun b o e l=>?_,I.base.gJ,I.base.gB,I.base.gN⟩,⟨m,T.sameBut hs (Ne.symm (gr x c g)),fun j y W f t Y=>?_⟩,fun y O e=>?_,I.free,I.d9,fun p Z=>?_,tracked ⟨oc,R,I.d9 x c g⟩ hs,by simpa using I.len⟩ ⟨c,hs,.inr g⟩
  ·exact (hs.2 b (gs (hI (eS e) (I.ok.km x c K g)))).trans (I.base.keep b o e n C l)
  ·obtain⟨sl,f⟩:=I.base.slot b o e n C l;exact⟨sl,(hs.2 b (gs (hI (eS e) (I.ok.km x c K g)))).trans f⟩
  ·obtain⟨o',f⟩:=I.base.there b o e l;exact⟨o',(hs.2 b (gs (hI (eS e) (I.ok.km x c K g)))).trans f⟩
  ·by_cases D:j=i
   ·subst D;rw[G] at f;obtain rfl:=sO f;rw[lp J] at t;cases t;exact⟨u,r,.inr ⟨.inl B,c,g,P⟩⟩
   ·rw[kx (Ne.symm D)] at t;obtain⟨u',r',q⟩:=hl j y W f t Y;refine⟨u',r',?_⟩
    rcases q with q|⟨k,O,e,z'⟩
    ·exact .inl q
    ·refine .inr ⟨k,O,e,z'.sameBut hs ?_⟩;rintro rfl;exact D (vH hN f (I.ok.inj _ _ _ e g ▸ G))
  ·by_cases S:O=c
   ·subst S;exact⟨_,P⟩
   ·obtain⟨w2,z2⟩:=I.cell y O e;exact⟨w2,z2.sameBut hs S⟩
  ·obtain⟨e,n,ne,nf,d⟩:=I.pin p Z;refine⟨(hs.2 p.1 ?_).trans e,n,ne,nf,d⟩;intro q;rw[q,R] at e;have q':=Option.some.inj e;exact d L (by rw[<-q'];exact RF)
theorem uo{M:Model}{A:n6}{E:bR->dr->Prop}{i:Nat}{x:eA}{v:V}{u:bR}{Q:Unit->dr->Prop}(I:Inv X pins σ H s)(a:X.N.Nodup)(b:X.N[i]?=some x)(c:Loc X.env.scope x)(r:RelV v u)
 (h:∀s',Inv X pins (σ.set i (some v)) H s'->Q () s')(d:X.fn x=true\/X.env.scope.names.lookup x=some .local:=by first|exact .inl rfl|exact .inr rfl|assumption):gW M A (storeName X.env x u) Q E s :=
 Am I a b c r (fun s' e _=>h s' e) d
theorem Inv.zM{s':dr}{ch:List dR}(I:Inv X pins σ H s)(ho:s'.os=s.os)(u:Un (cV X.stack) ch H H' s.heap s'.heap)(ai:bP X.prog X.w H' s'.heap)(d:WK s'.gens)
 (a:∀b∈ch,(b∈X.ex\/X.cE.heap.objs.size<=b)/\b≠X.env.locals/\(∀x c,X.env.cells.lookup x=some c->c≠b)/\∀p∈X.pn++pins,p.1≠b):Inv X pins σ H' s':=by
 obtain⟨h',g',d',t',f⟩:=s';have e:=ho;subst e;exact I.call u ai d a
end
abbrev XK:=bR->Option dR->Hp->Prop
abbrev St:=List (Option V)
abbrev VK:=V->Hp->Prop
abbrev TE:=St->Hp->VK->Prop
noncomputable abbrev TT:=St->Hp->(Bool->Hp->Prop)->Prop
abbrev TA:=St->Hp->(List V->Hp->Prop)->Prop
structure Ends where
 nx:St->Hp->Prop
 rt:VK
 bk:St->Hp->Prop:=fun _ _=>False
 ct:St->Hp->Prop:=fun _ _=>False
abbrev TS:=Ends->St->Hp->Prop
inductive EP (X:Cx) (pins:List (dR×wm)) (σ:St) (Q:VK) (u:bR) (s':dr):Prop
 | mk (v) (H') (i:Inv X pins σ H' s') (r:RelV v u) (q:Q v H')
def TP(X:Cx)(a:List (dR×wm))(d:St)(Q:Bool->Hp->Prop)(b:Bool)(s':dr):Prop:=∃c,Inv X a d c s'/\Q b c
inductive AP (X:Cx) (pins:List (dR×wm)) (σ:St) (Q:List V->Hp->Prop) (us:List bR) (s':dr):Prop
 | mk (vs) (H') (i:Inv X pins σ H' s') (r:aD vs us) (q:Q vs H')
def SP(X:Cx)(c:List (dR×wm))(D:Ends)(f:Flow)(s':dr):Prop :=
 match f with
 | .next=>∃a b,Inv X c a b s'/\D.nx a b
 | .brk=>∃a b,Inv X c a b s'/\D.bk a b
 | .cont=>∃a b,Inv X c a b s'/\D.ct a b
 | .ret u=>∃v a b,Inv X c a b s'/\RelV v u/\D.rt v b
def PE(X:Cx)(e:gi)(t:TE):Prop :=
 ∀(a:List (dR×wm)) (s:dr) (b:St) (H:Hp) (Q:VK),Inv X a b H s->t b H Q->gW (ib X.prog X.w) X.A (eval e X.env) (EP X a b Q) X.xe s
def PT(X:Cx)(e:gi)(t:TT):Prop :=
 ∀(a:List (dR×wm)) (s:dr) (b:St) (H:Hp) (Q:Bool->Hp->Prop),Inv X a b H s->t b H Q->gW (ib X.prog X.w) X.A (Ym e X.env (eval e X.env)) (TP X a b Q) X.xe s
def PW(X:Cx)(e:gi)(t:TT):Prop :=
 ∀(b:Sem bR) (a:List (dR×wm)) (s:dr) (c:St) (H:Hp) (Q:Bool->Hp->Prop),Inv X a c H s->t c H Q->gW (ib X.prog X.w) X.A (Ym e X.env b) (TP X a c Q) X.xe s
theorem PW.pt{X:Cx}{e:gi}{t:TT}(h:PW X e t):PT X e t:=h _
def PA(X:Cx)(c:List gi)(t:TA):Prop :=
 ∀(pos:u3) (a:List (dR×wm)) (s:dr) (b:St) (H:Hp) (Q:List V->Hp->Prop),Inv X a b H s->t b H Q->gW (ib X.prog X.w) X.A (spliced (KX pos (lq c X.env))) (AP X a b Q) X.xe s
def PS(X:Cx)(st:Uz)(t:TS):Prop :=
 ∀(a:List (dR×wm)) (s:dr) (b:St) (H:Hp) (D:Ends),Inv X a b H s->t D b H->gW (ib X.prog X.w) X.A (exec st X.env) (SP X a D) X.xe s
def fA(X:Cx)(st:List Uz)(t:TS):Prop :=
 ∀(a:List (dR×wm)) (s:dr) (b:St) (H:Hp) (D:Ends),Inv X a b H s->t D b H->gW (ib X.prog X.w) X.A (execs st X.env) (SP X a D) X.xe s
theorem aC{b:Type}{t:Sem b}{Q c:b->dr->Prop}{M:Model}{A:n6}{E:bR->dr->Prop}{s:dr}(h:gW M A t Q E s)(d:∀a s,Q a s->c a s):gW M A t c E s:=u2 h d fun _ _ x=>x
section
variable{X:Cx}
def tG(i:Nat):TE:=fun a H Q=>∃v,a[i]?=some (some v)/\Q v H
def tC(v:V):TE:=fun _ H Q=>Q v H
theorem fg{i:Nat}{x:eA}{pos:u3}(k:X.N[i]?=some x)(n:cc X.env.scope x)(hd:bb x:=by decide)(g:cH x:=by decide):PE X (.Name x pos) (tG i):=by
 intro f s o H Q I h;obtain⟨v,e,h⟩:=h;obtain⟨m,p,hl⟩:=I.loc;obtain⟨u,r,l⟩:=hl i x v k e n;have d:EP X f o Q u s:=⟨v,H,I,r,h⟩
 rcases l with⟨a,hm⟩|⟨a,c,j,b⟩
 ·exact ZV (wpAny_loadName_local I.ok.kind a p hm d) hd
 ·rcases a with a|a
  ·exact ZV (wpAny_loadName_cell I.ok.kind a j b d) hd
  ·exact ZV (wpAny_loadName_free I.ok.kind a j b d g) hd
theorem Ci{i j pos}:PE X (.Constant (.int i) j pos) (tC (.int i)):=fun _ _ _ H _ I h=>wpAny_Constant_int ⟨.int i,H,I.tok _,⟨_,rfl⟩,h⟩
theorem C6{b j pos}:PE X (.Constant (.bool b) j pos) (tC (.bl b)):=fun _ _ _ H _ I h=>Constant_bool ⟨.bl b,H,I,rfl,h⟩
theorem AE{j pos}:PE X (.Constant .none j pos) (tC .aB):=fun _ _ _ H _ I h=>Constant_none ⟨.aB,H,I,rfl,h⟩
theorem A5{x j pos}:PE X (.Constant (.str x) j pos) (tC (.str x)):=fun _ _ _ H _ I h=>Calls.Constant_str ⟨.str x,H,I.tok _,⟨_,rfl⟩,h⟩
def Gl(X:Cx)(x:eA):Prop:=X.env.kindOf x=some .globalImplicit
theorem nC{E:bR->dr->Prop}{a:List (dR×wm)}{s:dr}{b:St}{H:Hp}{x:eA}{u:bR}{pos:u3}{Q:bR->dr->Prop}(I:Inv X a b H s)(c:Gl X x)(hm:X.mg x=some u)(h:Q u s)
 (hd:bb x:=by decide):gW (ib X.prog X.w) X.A (eval (.Name x pos) X.env) Q E s :=
 XN I.ok.kind c (Calls.loadGlobal_global (by rw[I.ok.glob];exact I.mod.glob.keeps I.bk) hm h) hd
theorem mD{E:bR->dr->Prop}{a:List (dR×wm)}{s:dr}{b:St}{H:Hp}{x:eA}{u:bR}{pos:u3}{Q:bR->dr->Prop}(I:Inv X a b H s)(c:Gl X x)(hm:X.mg x=none)(d:Hz x=some u)(h:Q u s)
 (e:x≠"__name__":=by decide)(hd:bb x:=by decide):gW (ib X.prog X.w) X.A (eval (.Name x pos) X.env) Q E s:=by
 obtain⟨mb,f,g⟩:=I.mod.blt;exact XN I.ok.kind c (Calls.loadGlobal_builtin (by rw[I.ok.glob];exact I.mod.glob.keeps I.bk) hm (by rw[I.ok.blt];exact f.keeps I.bk) ((g x e).trans d) h) hd
theorem js{x:eA}{v:V}{u:bR}{pos:u3}(a:Gl X x)(hm:X.mg x=some u)(r:RelV v u)(hd:bb x:=by decide):PE X (.Name x pos) (tC v) :=
 fun _ _ _ H _ I h=>nC I a hm ⟨v,H,I,r,h⟩ hd
theorem G5{x:eA}{v:V}{u:bR}{pos:u3}(a:Gl X x)(hm:X.mg x=none)(b:Hz x=some u)(r:RelV v u)(c:x≠"__name__":=by decide)(hd:bb x:=by decide):PE X (.Name x pos) (tC v) :=
 fun _ _ _ H _ I h=>mD I a hm b ⟨v,H,I,r,h⟩ c hd
variable{a b:gi}{ta tb:TE}{pos:u3}
theorem Lc(b:gi){op:X7}(h:op≠.In)(c:op≠.NotIn):sW op b=false:=by
 have d:(op==abh)=false:=by cases op<;>first|rfl|exact absurd rfl h
 have e:(op==aan)=false:=by cases op<;>first|rfl|exact absurd rfl c
 cases b<;>simp[sW,d,e]
def tB(t:TE):TT:=fun d H Q=>t d H fun x e=>∃c,x=.bl c/\Q c e
theorem OS{e:gi}{t:TE}(h:PE X e t)(g:∀c,Ym e X.env c=(do let v <-c;Xz e.pos;UR [v] (ZX v)):=by intro _;rfl):PT X e (tB t):=by
 intro f s i H Q I hw;refine isTrue_plain (aC (h f s i H _ I hw) fun v s1 ⟨x,j,k,l,m⟩=>?_) (g _)
 obtain⟨d,rfl,q⟩:=m;subst l;exact z0 ⟨j,k,q⟩
variable{tA tB':TT}{rest:List gi}
def Oi(t u:TT):TT:=fun d H Q=>t d H fun c e=>if c=true then u d e Q else Q false e
def Ou(t u:TT):TT:=fun d H Q=>t d H fun c e=>if c=true then Q true e else u d e Q
def E4(t:TT):TT:=fun d H Q=>t d H fun c e=>Q (!c) e
theorem QS(f:PT X a tA):PW X (.BoolOp .And [a] pos) tA:=by
 intro wh d s g H Q I h;refine isTrue_and (aC (f d s g H Q I h) fun c s1 e=>?_)
 cases c with
 | true=>exact isTrue_and_nil e
 | false=>exact e
theorem QH(f:PT X a tA):PW X (.BoolOp .Or [a] pos) tA:=by
 intro wh d s g H Q I h;refine isTrue_or (aC (f d s g H Q I h) fun c s1 e=>?_)
 cases c with
 | false=>exact isTrue_or_nil e
 | true=>exact e
theorem Gv(j:PT X a tA)(k:PW X (.BoolOp .And (b::rest) pos) tB'):PW X (.BoolOp .And (a::b::rest) pos) (Oi tA tB'):=by
 intro l d s e H Q I h;refine isTrue_and (aC (j d s e H _ I h) fun c m ⟨f,g,i⟩=>?_)
 cases c with
 | true=>exact k l d m e f Q g i
 | false=>exact⟨f,g,i⟩
theorem MH(j:PT X a tA)(k:PW X (.BoolOp .Or (b::rest) pos) tB'):PW X (.BoolOp .Or (a::b::rest) pos) (Ou tA tB'):=by
 intro l d s e H Q I h;refine isTrue_or (aC (j d s e H _ I h) fun c m ⟨f,g,i⟩=>?_)
 cases c with
 | true=>exact⟨f,g,i⟩
 | false=>exact k l d m e f Q g i
theorem GJ(e:PT X a tA):PT X (.UnaryOp .Not a pos) (E4 tA):=by
 intro d s f H Q I h;exact isTrue_not (e d s f H (fun c g=>Q (!c) g) I h)
theorem NH{op}{t:TE}(h:PE X a t):PE X (.BoolOp op [a] pos) t:=fun c s d H Q I hw=>BoolOp_one (h c s d H Q I hw)
end
def cf(K:fj)(H:Hp)(a:dR)(xs:List V):Prop :=
 Rd H a (.lst xs) \/
  ∃(o:wm) (its:Array bR) (n:Nat),K.lookup a=some o/\o.cls=.type "list"/\o.dict=none/\o.data=.seq its n/\its.size<=dk/\aD xs its.toList
def aV(K:fj)(H:Hp)(a:dR)(xs:List V):Prop :=
 Rd H a (.tup xs) \/
  ∃(o:wm) (its:Array bR) (n:Nat),K.lookup a=some o/\o.cls=.type "tuple"/\o.data=.seq its n/\its.size<=dk/\aD xs its.toList
noncomputable def QW:bR->Option V
 | .none=>some .aB
 | .bool b=>some (.bl b)
 | .int i _=>some (.int i)
 | .str x _=>some (.str x)
 | .bytes b _=>some (.iB b)
 | .float b _=>some (.xc b)
 | .ref a=>some (.ref a)
 | .type n=>some (.ty n)
 | _=>none
theorem RelV.abs{x:V}{u:bR}(r:RelV x u):QW u=some x:=by
 cases x with
 | aB=>subst r;rfl
 | bl _=>subst r;rfl
 | int _=>obtain⟨t,rfl⟩:=r;rfl
 | str _=>obtain⟨t,rfl⟩:=r;rfl
 | iB _=>obtain⟨t,rfl⟩:=r;rfl
 | xc _=>obtain⟨t,rfl⟩:=r;rfl
 | ref _=>subst r;rfl
 | ty _=>subst r;rfl
theorem RelV.inj{x y:V}{u:bR}(r:RelV x u)(q:RelV y u):x=y:=Option.some.inj (r.abs.symm.trans q.abs)
theorem aD.inj{xs ys:List V}{us:List bR}(h:aD xs us)(h':aD ys us):xs=ys:=by
 induction h generalizing ys with
 | nil=>cases h';rfl
 | cons r t a =>
  cases h' with
  | cons b t'=>rw[r.inj b,a t']
section
variable{X:Cx}{pins:List (dR×wm)}{σ:St}{H:Hp}{s:dr}{a:dR}{xs ys:List V}{E:bR->dr->Prop}
theorem cf.of{K:fj}(h:H a=some (.lst xs)):cf K H a xs:=.inl (.inl h)
theorem aV.of{K:fj}(h:H a=some (.tup xs)):aV K H a xs:=.inl (.inl h)
theorem Inv.list(I:Inv X pins σ H s)(h:cf X.K H a xs):∃its:List bR,aD xs its/\PlainL s.heap a its.toArray/\xs.length<=sizeLine:=by
 rcases h with h|⟨o,its,n,b,c,hd,hs,hz,r⟩
 ·obtain⟨z,its,n,r,e⟩:=h.ok I.ai;exact⟨its,r,⟨_,n,e,rfl,rfl,rfl⟩,z⟩
 ·refine⟨its.toList,r,⟨o,n,I.dZ a o b,c,hd,by simpa using hs⟩,?_⟩
  have e:=r.length;simp at e;lia
theorem Inv.tuple(I:Inv X pins σ H s)(h:aV X.K H a xs):∃its:List bR,aD xs its/\Vv s.heap a its.toArray/\xs.length<=sizeLine:=by
 rcases h with h|⟨o,its,n,b,c,hs,hz,r⟩
 ·obtain⟨z,its,r,p⟩:=h.ok I.ai;exact⟨its,r,p,z⟩
 ·refine⟨its.toList,r,⟨o,I.dZ a o b,c,n,by simpa using hs⟩,?_⟩
  have e:=r.length;simp at e;lia
theorem Inv.Ko(I:Inv X pins σ H s)(h:cf X.K H a xs)(h':cf X.K H a ys):xs=ys:=by
 obtain⟨its,r,⟨o,n,e,_,_,d⟩,_⟩:=I.list h;obtain⟨its',c,⟨o',n',b,_,_,d'⟩,_⟩:=I.list h';rw[e] at b;obtain rfl:=sO b;rw[d] at d';injection d' with f _
 have:its=its':=by simpa using congrArg aaf f
 subst this;exact r.inj c
theorem Inv.Fn(I:Inv X pins σ H s)(h:aV X.K H a xs)(h':aV X.K H a ys):xs=ys:=by
 obtain⟨its,r,⟨o,e,_,n,d⟩,_⟩:=I.tuple h;obtain⟨its',c,⟨o',b,_,n',d'⟩,_⟩:=I.tuple h';rw[e] at b;obtain rfl:=sO b;rw[d] at d';injection d' with f _
 have:its=its':=by simpa using congrArg aaf f
 subst this;exact r.inj c
abbrev Cx.il(X:Cx)(E:bR->dr->Prop):Cx:={X with xe:=E}
abbrev Cx.gY(X:Cx):Cx:=X.il fun _ _=>False
theorem Cx.Ok.il{X:Cx}(ok:X.Ok)(E:bR->dr->Prop):(X.il E).Ok :=
 ⟨ok.mod,ok.kind,ok.glob,ok.blt,ok.above,ok.inj,ok.has,ok.km,ok.hd,ok.frames,ok.ji,ok.p9,ok.bs,ok.iS,ok.kG,ok.lF,ok.gp,ok.jM⟩
theorem Cx.Ok.jY{X:Cx}{E:bR->dr->Prop}(ok:(X.il E).Ok):X.Ok :=
 ⟨ok.mod,ok.kind,ok.glob,ok.blt,ok.above,ok.inj,ok.has,ok.km,ok.hd,ok.frames,ok.ji,ok.p9,ok.bs,ok.iS,ok.kG,ok.lF,ok.gp,ok.jM⟩
theorem Inv.il(I:Inv X pins σ H s)(E:bR->dr->Prop):Inv (X.il E) pins σ H s:=⟨I.ok.il E,I.os,I.bare,I.base,I.loc,I.cell,I.free,I.d9,I.pin,I.ai,I.len⟩
theorem Inv.jY(I:Inv (X.il E) pins σ H s):Inv X pins σ H s:=⟨I.ok.jY,I.os,I.bare,I.base,I.loc,I.cell,I.free,I.d9,I.pin,I.ai,I.len⟩
theorem SP.jY{D:Ends}{f:Flow}{s':dr}(h:SP (X.il E) pins D f s'):SP X pins D f s':=by
 cases f with
 | next=>obtain⟨b,c,I,q⟩:=h;exact⟨b,c,I.jY,q⟩
 | brk=>obtain⟨b,c,I,q⟩:=h;exact⟨b,c,I.jY,q⟩
 | cont=>obtain⟨b,c,I,q⟩:=h;exact⟨b,c,I.jY,q⟩
 | ret u=>obtain⟨v,b,c,I,r,q⟩:=h;exact⟨v,b,c,I.jY,r,q⟩
theorem fA.gY{st:List Uz}{t:TS}(h:fA X.gY st t):fA X st t:=fun pins s σ H D I hw =>
 u2 (h pins s σ H D (I.il _) hw) (fun _ _ q=>q.jY) fun _ _ z=>za z
end
section
variable{X:Cx}{st:Uz}{rest:List Uz}{t u:TS}{e:gi}{te:TE}{pos:u3}
def JI:TS:=fun D a H=>D.nx a H
def FA(t u:TS):TS:=fun D a H=>t {D with nx:=u D} a H
theorem Cj:fA X [] JI:=fun _ _ a H _ I h=>VP ⟨a,H,I,h⟩
theorem tz(c:PS X st t)(d:fA X rest u):fA X (st::rest) (FA t u):=by
 intro a s g H D I h;refine aas (aC (c a s g H {D with nx:=u D} I h) fun f i q=>?_)
 cases f with
 | next =>
  obtain⟨b,j,k,q⟩:=q;exact d a i b j D k q
 | ret v=>exact q
 | brk=>exact q
 | cont=>exact q
theorem ni(b:PS X st t):fA X [st] t:=by
 intro a s c H D I h;refine aas (aC (b a s c H D I h) fun f s1 q=>?_)
 cases f with
 | next=>exact VP q
 | ret v=>exact q
 | brk=>exact q
 | cont=>exact q
theorem Inv.quiet{a:List (dR×wm)}{b:St}{H:Hp}{s:dr}(I:Inv X a b H s):interactive X.env=false:=by simp[interactive,I.ok.kind]
def EL(te:TE):TS:=fun D a H=>te a H fun _ b=>D.nx a b
theorem sv(c:PE X e te)(hs:xn e none pos.line X.env=pure false:=by rfl):PS X (.Expr e pos) (EL te):=by
 intro a s b H D I h;exact wpAny_Expr_any (aC (c a s b H _ I h) fun v s1 ⟨x,d,f,r1,g⟩=>⟨b,d,f,g⟩) I.quiet hs
def Mk(te:TE):TS:=fun D a H=>te a H D.rt
theorem x9(c:PE X e te):PS X (.Return (some e) pos) (Mk te):=by
 intro a s b H D I h;exact wpAny_Return_some (aC (c a s b H _ I h) fun v s1 ⟨x,d,f,g,i⟩=>⟨x,b,d,f,g,i⟩)
def MN(c:TT)(t u:TS):TS:=fun D a H=>c a H fun b d=>if b=true then t D a d else u D a d
theorem yh{c:gi}{a b:List Uz}{tc:TT}(m:PT X c tc)(n:fA X a t)(o:fA X b u):PS X (.If c a b pos) (MN tc t u):=by
 intro f s g H D I h;refine wpAny_If (aC (m f s g H _ I h) fun d i ⟨j,k,l⟩=>?_)
 cases d with
 | true=>exact n f i g j D k l
 | false=>exact o f i g j D k l
end
abbrev TG:=V->St->Hp->(St->Hp->Prop)->Prop
abbrev iV:=List V->St->Hp->(St->Hp->Prop)->Prop
def PG(X:Cx)(target:gi)(t:TG):Prop :=
 ∀(a:List (dR×wm)) (s:dr) (c:St) (H:Hp) (v:V) (u:bR) (Q:St->Hp->Prop),Inv X a c H s->RelV v u->t v c H Q ->
  gW (ib X.prog X.w) X.A (Vg target X.env u) (fun _ s'=>∃b d,Inv X a b d s'/\Q b d) X.xe s
def mF(X:Cx)(e:List gi)(t:iV):Prop :=
 ∀(a:List (dR×wm)) (s:dr) (c:St) (H:Hp) (vs:List V) (us:List bR) (Q:St->Hp->Prop),Inv X a c H s->aD vs us->t vs c H Q ->
  gW (ib X.prog X.w) X.A (assignInOrder ((ql e X.env).map (·.2)) us) (fun _ s'=>∃b d,Inv X a b d s'/\Q b d) X.xe s
abbrev v9:=V->V->V->Hp->(Hp->Prop)->Prop
def AO(X:Cx)(t:v9):Prop :=
 ∀(a:List (dR×wm)) (s:dr) (b:St) (H:Hp) (o i v:V) (c d u:bR) (Q:Hp->Prop),Inv X a b H s->RelV o c->RelV i d->RelV v u->t o i v H Q ->
  gW (ib X.prog X.w) X.A (Zb c d u) (fun _ s'=>∃e,Inv X a b e s'/\Q e) X.xe s
section
variable{X:Cx}{pos:u3}
def qW(i:Nat):TG:=fun v a H Q=>Q (a.set i (some v)) H
theorem Q7{i:Nat}{x:eA}(a:X.N.Nodup)(b:X.N[i]?=some x)(c:Loc X.env.scope x)(d:X.fn x=true\/X.env.scope.names.lookup x=some .local:=by first|exact .inl rfl|exact .inr rfl|assumption):PG X (.Name x pos) (qW i):=by
 intro pins s σ H v u Q I r h;exact aag (uo I a b c r (fun s' e=>⟨_,H,e,h⟩) d)
def IC:iV:=fun vs a H Q=>vs=[]/\Q a H
def Om(t:TG)(u:iV):iV:=fun vs b H Q=>∃v r,vs=v::r/\t v b H fun a c=>u r a c Q
theorem O6:mF X [] IC:=by
 intro pins s a H vs us Q I r h;obtain⟨e,h⟩:=h;subst e;cases r;exact assignInOrder_nil ⟨a,H,I,h⟩
theorem K7{e:gi}{b:List gi}{t:TG}{u:iV}(d:PG X e t)(f:mF X b u)
 (hs:(ql (e::b) X.env).map (·.2)=Vg e X.env::(ql b X.env).map (·.2):=by rfl):mF X (e::b) (Om t u):=by
 intro a s g H vs us Q I r h;obtain⟨v,vr,i,h⟩:=h;subst i;cases r with
 | cons r j =>
  rw[hs];refine assignInOrder_cons (aC (d a s g H _ _ _ I r h) fun _ k ⟨c,l,m,n⟩=>?_)
  exact f a k c l _ _ Q m j n
def Na(K:fj)(n:Nat)(t:iV):TG:=fun v b H Q=>∃a xs,v=.ref a/\aV K H a xs/\xs.length=n/\t xs b H Q
theorem JC{d:List gi}{k:Nat}{t:iV}{n:Nat}(j:X.calm=true)(h:mF X d t)
 (l:(ql d X.env).length=n:=by rfl)(f:(ql d X.env).findIdx? (·.1)=none:=by rfl):PG X (.Tuple d k pos) (Na X.K n t):=by
 intro c s g H v u Q I r hw;obtain⟨a,xs,m,p,hl,hw⟩:=hw;subst m;subst r;obtain⟨its,i,q,hz⟩:=I.tuple p;refine assign_Tuple_tuple (I.ok.hd j) q (by simp[l,<-hl,i.length]) f fun h' w=>?_
 have x:=I.kept (t':=s.toks) fun b o e=>w b o (gs (eS e)) e
 exact h c _ g H xs _ Q x (i) hw
def Kh(to b:TE)(t:v9):TG:=fun v a H Q=>to a H fun o c=>b a c fun i d=>t o i v d fun e=>Q a e
theorem LO{o i:gi}{to e:TE}{t:v9}(ho:PE X o to)(f:PE X i e)(hs:AO X t)
 (g:∀v,Vg (.Subscript o i pos) X.env v=(do
   let b <-UR [v] (eval o X.env)
   let c <-UR [v,b] (eval i X.env)
   Xz pos
   UR [v,b,c] (Zb b c v)
   release [v,b,c] []):=by intro _;rfl):PG X (.Subscript o i pos) (Kh to e t):=by
 intro a s d H v u Q I r h;rw[g];refine cn (sH (aC (ho a s d H _ I h) fun b j ⟨x,k,l,m,n⟩=>?_))
 refine cn (sH (aC (f a j d k _ l n) fun c p ⟨y,q,w,z,A⟩=>?_))
 refine cn (Xe (cn (sH (aC (hs a p d q x y v b c u _ w m z r A) fun _ s3 ⟨B,C,D⟩=>?_))))
 exact wpAny_release ⟨d,B,C,D⟩
def yb(te:TE)(g:TG):TS:=fun D a H=>te a H fun x b=>g x a b D.nx
theorem yV{a e:gi}{te:TE}{g:TG}(d:PE X e te)(f:PG X a g)(hs:Wq [a] e pos.line X.env=pure false:=by rfl)(hw:Wr [a] e X.env=pure none:=by rfl)
 (i:(ql [a] X.env).map (·.2)=[Vg a X.env]:=by rfl):PS X (.Assign [a] e pos) (yb te g):=by
 intro b s c H D I h;refine wpAny_Assign_stores (aC (d b s c H _ I h) fun v j ⟨x,k,l,m,n⟩=>?_) hs hw
 rw[i];exact aC (f b j c k x v _ l m n) fun _ s2 q=>q
theorem ya{i:Nat}{x:eA}{e:gi}{te:TE}{a:u3}(c:X.N.Nodup)(d:X.N[i]?=some x)(f:Loc X.env.scope x)(g:PE X e te)(hs:xn e (some (.Name x a)) pos.line X.env=pure false:=by rfl)(j:X.fn x=true\/X.env.scope.names.lookup x=some .local:=by first|exact .inl rfl|exact .inr rfl|assumption) :
  PS X (.Assign [.Name x a] e pos) (yb te (qW i)):=by
 intro b s k H D I h;refine wpAny_Assign_Name (aC (g b s k H _ I h) fun v s1 ⟨y,l,m,n,o⟩=>?_) hs
 exact uo m c d f n (fun s2 p=>⟨_,l,p,o⟩) j
def MI(c:TT)(h:TS):TS:=fun D a H=>∃W:Nat->St->Hp->Prop,(∃m,W m a H)/\∀m a H,W m a H ->
 c a H fun b e=>if b=true then ∃N:St->Hp->Prop,(∀d f,N d f->∃g,g<m/\W g d f)/\h {D with nx:=N,ct:=N,bk:=D.nx} a e else D.nx a e
theorem Gb{c:gi}{body:List Uz}{tc:TT}{q:TS}(r:W4 (ib X.prog X.w) X.A X.env X.xe)(B:PT X c tc)(C:fA X body q):PS X (.While c body [] pos) (MI tc q):=by
 intro d s E H D I h;obtain⟨W,⟨F,G⟩,turn⟩:=h;refine wpAny_While (codeAny_whileLoop (fun n s'=>∃k t,Inv X d k t s'/\W n k t) ?_ F ⟨E,H,I,G⟩)
 rintro n J ⟨e,u,K,L⟩;refine UO r (aC (B d J e u _ K (turn n e u L)) fun b M ⟨x,y,i⟩=>?_)
 cases b with
 | true =>
  obtain⟨N,z,i⟩:=i;refine UO r (aC (C d M e x _ y i) fun f s3 j=>?_)
  cases f with
  | next =>
   obtain⟨a,g,l,m⟩:=j;obtain⟨o,hm,p⟩:=z a g m;exact⟨o,hm,a,g,l,p⟩
  | cont =>
   obtain⟨a,g,l,m⟩:=j;obtain⟨o,hm,p⟩:=z a g m;exact⟨o,hm,a,g,l,p⟩
  | brk=>exact j
  | ret v=>exact j
 | false =>
  exact VP ⟨e,x,y,i⟩
end
structure It where
 go:Nat->Hp->Prop
 mz:Nat->Hp->V->Hp->Prop
 stop:Nat->Hp->Prop
def iq(X:Cx)(a:List (dR×wm))(H:Hp)(b:dR):Prop :=
 H b=none/\b≠X.env.locals/\b∉X.fs/\(b∈X.ex\/X.cE.heap.objs.size<=b)/\(∀x c,X.env.cells.lookup x=some c->c≠b)/\∀p∈X.pn++a,p.1≠b
theorem Inv.la{X:Cx}{a:List (dR×wm)}{g:St}{H f:Hp}{s:dr}{b:dR}(I:Inv X a g H s)(d:s.heap.objs.size<=b)(h:f b=none):iq X a f b:=by
 refine⟨h,Xc (hI I.lt d),I.HS d,.inr (sq I.sz d),fun x c e z=>?_,fun p i z=>?_⟩
 ·obtain⟨v,q⟩:=I.cell x c e;exact absurd (hI q.lt (by rw[z];exact d)) (wa _)
 ·exact absurd (hI (eS (I.pin p i).1) (by rw[z];exact d)) (wa _)
structure Turn (P:iN) (w:nE) (K:fj) (tg:gi) (J:It) (fp:List dR) (it:dR) (tn:Nat->nS->Prop):Prop where
 mem:it∈fp
 obj:∀i h,tn i h->∀b∈fp,∃o,h.get? b=some o/\∀v,o.data≠.cell v
 keep:∀i h h',tn i h->(∀b∈fp,∀o,h.get? b=some o->h'.get? b=some o)->tn i h'
 item:∀(X:Cx),X.prog=P->X.w=w->X.K=K->X.calm=true->∀(i:Nat) (pins:List (dR×wm)) (s:dr) (σ:St) (H:Hp) (E:bR->dr->Prop),Inv X pins σ H s->(∀b∈fp,iq X pins H b)->tn i s.heap->J.go i H ->
  gW (ib P w) X.A (WI (.ref it)) (fun r s1=>∃u,r=some u /\
   gW (ib P w) X.A (WN tg (.ref it) u) (fun _ s2=>∃x H',Inv X pins σ H' s2/\RelV x u/\J.mz i H x H'/\tn (i+1) s2.heap/\∀b∈fp,H' b=none) E s1) E s
 done:∀(X:Cx),X.prog=P->X.w=w->X.K=K->X.calm=true->∀(i:Nat) (pins:List (dR×wm)) (s:dr) (σ:St) (H:Hp) (E:bR->dr->Prop),Inv X pins σ H s->(∀b∈fp,iq X pins H b)->tn i s.heap->J.stop i H ->
  gW (ib P w) X.A (WI (.ref it)) (fun r s1=>r=none/\Inv X pins σ H s1) E s
 self:∀(A:n6) (i:Nat) (s:dr) (Q:bR->dr->Prop) (E:bR->dr->Prop),tn i s.heap->Q (.ref it) s->gW (ib P w) A (ZY (.ref it)) Q E s
abbrev TI:=St->Hp->(It->Hp->Prop)->Prop
def C3(X:Cx)(a:List (dR×wm))(h:St)(i:gi)(R:It->Hp->Prop)(d:bR)(e:dr):Prop :=
 ∃(it:dR) (f:List dR) (g:Nat->nS->Prop) (J:It) (c:Hp),d=.ref it/\Inv X a h c e/\Turn X.prog X.w X.K i J f it g/\g 0 e.heap/\(∀b∈f,iq X a c b)/\R J c
def PI(X:Cx)(c iter:gi)(d:TI):Prop :=
 ∀(a:List (dR×wm)) (s:dr) (b:St) (H:Hp) (R:It->Hp->Prop),Inv X a b H s->d b H R ->
  gW (ib X.prog X.w) X.A (eval iter X.env) (fun v e=>gW (ib X.prog X.w) X.A (ZY v) (C3 X a b c R) X.xe e) X.xe s
theorem nJ{M:Model}{A:n6}{E:bR->dr->Prop}{s:dr}{b:gi}{it:dR}{u:bR}{o:wm}{n:String}{vs:Array bR}{Q:Unit->dr->Prop}(ho:s.heap.get? it=some o)(c:o.cls=.type n)(hd:o.data=.fields vs)
 (d:["enumerate","zip","dict_itemiterator","dict_reverseitemiterator","odict_iterator","itertools.zip_longest","itertools.pairwise"].contains n=false)(a:Q () s):gW M A (WN b (.ref it) u) Q E s:=by
  cases b<;>first
    | exact eK a
    | (cases u<;>first
        | exact eK a
        | (refine cn (wpAny_load ho ?_)
           rw[c,hd];show gW M A (if (["enumerate","zip","dict_itemiterator","dict_reverseitemiterator","odict_iterator","itertools.zip_longest","itertools.pairwise"].contains n&&vs[0]?==some (Zd _))=true then _ else _) Q E s
           rw[if_neg (by intro h;rw[d,Cs] at h;contradiction)]
           exact eK a))
noncomputable def yW(K:fj)(a:dR):It :=
 ⟨fun i H=>∃xs x,cf K H a xs/\xs[i]?=some x,fun i H x b=>b=H/\∀xs,cf K H a xs->xs[i]?=some x,fun i H=>∃xs,cf K H a xs/\xs.length<=i⟩
noncomputable def Ap(K:fj)(a:dR):It :=
 ⟨fun i H=>∃xs x,aV K H a xs/\xs[i]?=some x,fun i H x b=>b=H/\∀xs,aV K H a xs->xs[i]?=some x,fun i H=>∃xs,aV K H a xs/\xs.length<=i⟩
noncomputable def mV(lo:Int)(n:Nat):It:=⟨fun i _=>i<n,fun i H x a=>a=H/\x=.int (lo+i),fun i _=>n<=i⟩
theorem QO{P:iN}{w:nE}{K:fj}{L:gi}(a it:dR):Turn P w K L (yW K a) [it] it (fun i h=>h.IsListIter it a i) where
 mem:=by simp
 obj:=fun i h st b f=>by
  have e:b=it:=by simpa using f
  subst e;obtain⟨o,e,c,d⟩:=st;exact⟨o,e,fun v z=>by rw[d] at z;contradiction⟩
 keep:=fun i h h' st k=>st.at fun o e=>k it (by simp) o e
 item:=by
  intro X n hw q G i g s J H E I j st r;subst n hw q;obtain⟨xs,x,l,t⟩:=r;obtain⟨its,y,p,M⟩:=I.list l;obtain⟨u,N,O⟩:=y.get t;obtain⟨A,B,Q,C,D,F⟩:=j it (by simp)
  refine wpAny_pyNext_list_item st p.isList (by simpa using N) fun h' m R=>?_
  have S:=I.turned (t':=s.toks) (fun b o f e=>(R.2 b f).trans e) A B C D F
  obtain⟨o,e,c,d⟩:=id m;exact⟨u,rfl,nJ e c d rfl ⟨x,H,S,O,⟨rfl,fun ys T=>by rw[I.Ko T l];exact t⟩,m,fun b f=>(j b f).1⟩⟩
 done:=by
  intro X n hw q G i g s J H E I j st r;subst n hw q;obtain⟨xs,l,t⟩:=r;obtain⟨its,y,p,M⟩:=I.list l;obtain⟨A,B,Q,C,D,F⟩:=j it (by simp)
  have hl:=y.length;exact wpAny_pyNext_list_end (I.ok.hd G) st p.isList (by simp;omega) fun h' U=>⟨rfl,I.turned (fun b o f e=>U b o f e) A B C D F⟩
 self:=fun _ _ _ _ _ st h=>wpAny_pyIter_listiter st h
theorem Mg{P:iN}{w:nE}{K:fj}{L:gi}(a it:dR):Turn P w K L (Ap K a) [it] it (fun i h=>h.IsTupleIter it a i) where
 mem:=by simp
 obj:=fun i h st b f=>by
  have e:b=it:=by simpa using f
  subst e;obtain⟨o,e,c,d⟩:=st;exact⟨o,e,fun v z=>by rw[d] at z;contradiction⟩
 keep:=fun i h h' st k=>st.at fun o e=>k it (by simp) o e
 item:=by
  intro X n hw q G i g s J H E I j st r;subst n hw q;obtain⟨xs,x,l,t⟩:=r;obtain⟨its,y,p,M⟩:=I.tuple l;obtain⟨u,N,O⟩:=y.get t;obtain⟨A,B,Q,C,D,F⟩:=j it (by simp)
  refine wpAny_pyNext_tuple_item st (p) (by simpa using N) fun h' m R=>?_
  have S:=I.turned (t':=s.toks) (fun b o f e=>(R.2 b f).trans e) A B C D F
  obtain⟨o,e,c,d⟩:=id m;exact⟨u,rfl,nJ e c d rfl ⟨x,H,S,O,⟨rfl,fun ys T=>by rw[I.Fn T l];exact t⟩,m,fun b f=>(j b f).1⟩⟩
 done:=by
  intro X n hw q G i g s J H E I j st r;subst n hw q;obtain⟨xs,l,t⟩:=r;obtain⟨its,y,p,M⟩:=I.tuple l;obtain⟨A,B,Q,C,D,F⟩:=j it (by simp)
  have hl:=y.length;exact wpAny_pyNext_tuple_end (I.ok.hd G) st (p) (by simp;omega) fun h' U=>⟨rfl,I.turned (fun b o f e=>U b o f e) A B C D F⟩
 self:=fun _ _ _ _ _ st h=>wpAny_pyIter_tupleiter st h
theorem Ik{P:iN}{w:nE}{K:fj}{A:gi}(it:dR)(lo:Int)(n:Nat):Turn P w K A (mV lo n) [it] it (fun i h=>IsRangeIter h it (lo+(i:Nat)*1) ((n:Int)-(i:Nat)) 1) where
 mem:=by simp
 obj:=fun i h st b a=>by
  have e:b=it:=by simpa using a
  subst e;exact⟨_,st,fun v z=>by
   have z':Data.fields _=Data.cell v:=z;contradiction⟩
 keep:=fun i h h' st k=>k it (by simp) _ st
 item:=by
  intro X g hw j l i c s y H E I d st m;subst g hw j;obtain⟨p,q,B,r,u,x⟩:=d it (by simp)
  have W:=Walks.range (prog:=X.prog) (w:=X.w) (I.ok.hd l) it lo 1 n;refine W.item i s _ _ m st fun v h' tk C f D=>?_
  obtain⟨t,rfl⟩:=C;have F:Inv X c y H {s with heap:=h',toks:=tk}:=I.turned (fun b o a e=>D b o (by simpa using a) e) p q r u x
  refine⟨_,rfl,nJ f rfl rfl rfl ⟨.int (lo+i),H,F,⟨t,?_⟩,⟨rfl,rfl⟩,f,fun b a=>(d b a).1⟩⟩
  rw[Int.mul_one]
 done:=by
  intro X g hw j l i c s y H E I d st m;obtain⟨p,q,B,r,u,x⟩:=d it (by simp)
  exact wpAny_pyNext_range_end (I.ok.hd l) st (by have:n<=i:=m;omega) fun h' G=>⟨rfl,I.turned (fun b o a e=>G b o a e) p q r u x⟩
 self:=fun _ _ _ _ _ st h=>wpAny_pyIter_rangeiter st h
section
variable{X:Cx}{tg:gi}
def MP(K:fj)(c:TE):TI:=fun d H R=>c d H fun x b=>∃a,x=.ref a/\(∃xs,cf K b a xs)/\R (yW K a) b
def GC(K:fj)(c:TE):TI:=fun d H R=>c d H fun x b=>∃a,x=.ref a/\(∃xs,aV K b a xs)/\R (Ap K a) b
theorem Li{l:gi}{g:TE}(hl:PE X l g):PI X tg l (MP X.K g):=by
 intro f s i H R I h;refine aC (hl f s i H _ I h) fun v c ⟨x,j,d,k,m⟩=>?_
 obtain⟨a,e,⟨xs,n⟩,q⟩:=m;subst e;subst k;obtain⟨its,rv,p,hz⟩:=d.list n;refine UQ p.isList ?_;refine⟨c.heap.objs.size,[c.heap.objs.size],_,_,j,rfl,d.kept fun b o e=>eu _ e,QO a _,⟨_,hG _ rfl,rfl,rfl⟩,fun b r=>?_,q⟩
 have e:b=c.heap.objs.size:=by simpa using r
 subst e;exact d.la (eB _) (d.ai.fresh (eB _))
theorem MA{l:gi}{g:TE}(hl:PE X l g):PI X tg l (GC X.K g):=by
 intro f s i H R I h;refine aC (hl f s i H _ I h) fun v c ⟨x,j,d,k,m⟩=>?_
 obtain⟨a,e,⟨xs,n⟩,q⟩:=m;subst e;subst k;obtain⟨its,rv,p,hz⟩:=d.tuple n;refine wpAny_pyIter_tuple (p) ?_
 refine⟨c.heap.objs.size,[c.heap.objs.size],_,_,j,rfl,d.kept fun b o e=>eu _ e,Mg a _,⟨_,hG _ rfl,rfl,rfl⟩,fun b r=>?_,q⟩
 have e:b=c.heap.objs.size:=by simpa using r
 subst e;exact d.la (eB _) (d.ai.fresh (eB _))
theorem yD{c:List (dR×wm)}{d:St}{H:Hp}{s:dr}{R:It->Hp->Prop}{E:bR->dr->Prop}{lo a:Int}{t u v:Tok}{tk:Nat}(I:Inv X c d H s)(g:-(2 ^ 62)<=lo)(h:lo<2 ^ 62)(i:-(2 ^ 62)<=a)(j:a<2 ^ 62)
 (q:R (mV lo (a-lo).toNat) H):gW (ib X.prog X.w) X.A (ZY (.ref s.heap.objs.size)) (C3 X c d tg R) E {s with heap:=s.heap.push {cls:=.type "range",data:=.fields #[.int lo t,.int a u,.int 1 v]},toks:=tk}:=by
 refine wpAny_pyIter_range (IsRange.new ..) (small_one g h i j) ?_;have f:Inv X c d H {s with heap:=s.heap.push {cls:=.type "range",data:=.fields #[.int lo t,.int a u,.int 1 v]},toks:=tk}:=I.kept fun b o e=>eu _ e
 refine⟨(s.heap.push {cls:=.type "range",data:=.fields #[.int lo t,.int a u,.int 1 v]}).objs.size,[(s.heap.push {cls:=.type "range",data:=.fields #[.int lo t,.int a u,.int 1 v]}).objs.size],_,_,H,rfl,
  f.kept fun b o e=>eu _ e,Ik _ lo (a-lo).toNat,?_,fun b k=>?_,q⟩
 ·have l:lo+((0:Nat):Int)*1=lo:=by simp
  have m:(((a-lo).toNat:Nat):Int)-((0:Nat):Int)=aaL lo a 1:=by rw[rangeSize_one];split<;>omega
  rw[l,m];exact hG _ rfl
 ·have e:b=(s.heap.push {cls:=.type "range",data:=.fields #[.int lo t,.int a u,.int 1 v]}).objs.size:=by simpa using k
  subst e;exact f.la (eB _) (f.ai.fresh (eB _))
def FJ(a:TA):TI:=fun b H R=>a b H fun vs c=>∃j:Int,vs=[.int j]/\-(2 ^ 62)<=j/\j<2 ^ 62/\R (mV 0 j.toNat) c
def Fq(a:TA):TI:=fun b H R=>a b H fun vs c=>∃i j:Int,vs=[.int i,.int j]/\(-(2 ^ 62)<=i/\i<2 ^ 62/\-(2 ^ 62)<=j/\j<2 ^ 62)/\R (mV i (j-i).toNat) c
theorem JL{a:gi}{d:TA}{p pos:u3}(f:Gl X "range")(hm:X.mg "range"=none)(g:PA X [a] d)(hs:lq [a] X.env=[(false,eval a X.env)]:=by rfl):PI X tg (.Call (.Name "range" p) [a] [] pos) (FJ d):=by
 intro b s i H R I h;refine Call_ (mD I f hm boot_range (Ts (aC (g pos b s i H _ I h) fun us s1 ⟨vs,H1,k,l,c⟩=>?_) hs rfl))
 obtain⟨j,e,c,m,q⟩:=c;subst e;cases l with
 | cons r n =>
  cases n;obtain⟨t,rfl⟩:=r;exact call_range_1 (yD k (by lia) (by lia) c m (by simpa using q))
theorem Ow{a b:gi}{k:TA}{p pos:u3}(l:Gl X "range")(hm:X.mg "range"=none)(m:PA X [a,b] k)(hs:lq [a,b] X.env=[(false,eval a X.env),(false,eval b X.env)]:=by rfl)(c:lq [b] X.env=[(false,eval b X.env)]:=by rfl) :
  PI X tg (.Call (.Name "range" p) [a,b] [] pos) (Fq k):=by
 intro d s n H R I h;refine Call_ (mD I l hm boot_range (Ts (aC (m pos d s n H _ I h) fun us s1 ⟨vs,H1,o,u,f⟩=>?_) (by rw[hs,c]) (by rw[c];rfl)))
 obtain⟨i,j,e,⟨f,v,w,x⟩,q⟩:=f;subst e;cases u with
 | cons r g =>
  cases g with
  | cons y g =>
   cases g;obtain⟨t,rfl⟩:=r;obtain⟨t',rfl⟩:=y;exact call_range_2 (yD o f v w x q)
def JY(f:TI)(g:TG)(h:TS):TS:=fun D a H=>f a H fun J j=>∃W:Nat->Nat->St->Hp->Prop,(∃m,W 0 m a j)/\∀i m a H,W i m a H ->
 (J.stop i H/\D.nx a H)\/(J.go i H/\∃N:St->Hp->Prop,(∀c b,N c b->∃d,d<m/\W (i+1) d c b)/\∀x b,J.mz i H x b->g x a b fun e k=>h {D with nx:=N,ct:=N,bk:=D.nx} e k)
noncomputable def qC(a:List dR)(h:nS):List (dR×wm):=a.filterMap fun b=>(h.get? b).map fun o=>(b,o)
theorem rW{a:List dR}{h:nS}{b:dR}{o:wm}(c:b∈a)(e:h.get? b=some o):(b,o)∈qC a h:=z9.mpr ⟨b,c,by rw[e];rfl⟩
theorem HY{a:List dR}{h:nS}{p:dR×wm}(c:p∈qC a h):p.1∈a/\h.get? p.1=some p.2:=by
 obtain⟨b,d,e⟩:=z9.mp c;cases q:h.get? b with
 | none=>rw[q] at e;exact nO e
 | some o =>
  rw[q] at e;have f:=Option.some.inj e;subst f;exact⟨d,q⟩
theorem Inv.pinned{a:List (dR×wm)}{f:St}{H:Hp}{s:dr}{c:List dR}(I:Inv X a f H s)(i:∀b∈c,iq X a H b)(ho:∀b∈c,∃o,s.heap.get? b=some o/\∀v,o.data≠.cell v):Inv X (a++qC c s.heap) f H s :=
 I.Bn fun p j=>(et.mp j).elim (fun z=>I.pin p (iW _ z)) fun z=>by
  obtain⟨g,e⟩:=HY z;obtain⟨k,l,m,_⟩:=i p.1 g;obtain⟨o,h,d⟩:=ho p.1 g;rw[e] at h;obtain rfl:=sO h;exact⟨e,k,l,m,d⟩
theorem Inv.tS{a c:List (dR×wm)}{b:St}{H:Hp}{s:dr}(I:Inv X (a++c) b H s):Inv X a b H s:=I.Bn fun p d=>I.pin p (iW _ (ub _ d))
theorem Js{iter:gi}{body:List Uz}{P:TI}{g:TG}{Q:TS}{pos:u3}(B:W4 (ib X.prog X.w) X.A X.env X.xe)(R:X.calm=true)(hi:PI X tg iter P)(hg:PG X tg g)(j:fA X body Q)
 (hs:∀x,r0 iter X.env x=pure x:=by intro _;rfl):PS X (.For tg iter body [] pos) (JY P g Q):=by
 intro c s S H D I h;refine wpAny_For (aC (hi c s S H _ I h) fun v s1 h1=>aC h1 fun itv s2 h2=>?_) hs
 obtain⟨it,C,U,J,H2,e,I2,T,V,Y,W,⟨m0,w0⟩,turn⟩:=h2;subst e;have z:∀{p:Hp},(∀b∈C,p b=none)->∀b∈C,iq X c p b:=fun hn b j=>⟨hn b j,(Y b j).2⟩
 refine codeAny_forLoop_any (fun n s'=>∃i q p,Inv X c q p s'/\U i s'.heap/\(∀b∈C,p b=none)/\W i n q p) ?_ m0 ⟨0,S,H2,I2,V,fun b j=>(Y b j).1,w0⟩
 rintro n s3 ⟨i,t,G,Z,K,L,w3⟩
 rcases turn i n t G w3 with⟨stop,qn⟩|⟨go,N,hN,step⟩
 ·refine UO B (aC (T.done X rfl rfl rfl R i c s3 t G X.xe Z (z L) K stop) fun r s4 ⟨M,I4⟩=>?_)
  subst M;exact VP ⟨t,G,I4,qn⟩
 ·refine UO B (aC (T.item X rfl rfl rfl R i c s3 t G X.xe Z (z L) K go) fun r s4 ⟨u,M,h4⟩=>?_)
  subst M;refine UO B (aC h4 fun _ s5 ⟨x,H5,I5,r5,y5,E,RE⟩=>?_)
  have RF:=I5.pinned (z RE) (T.obj _ _ E);refine UO B (aC (hg _ s5 t H5 x u _ RF r5 (step x H5 y5)) fun _ s6 ⟨RG,H6,I6,q6⟩=>?_)
  refine UO B (aC (j _ s6 RG H6 _ I6 q6) fun f O y=>?_)
  have again:∀{a:St}{k:Hp},Inv X (c++qC C s5.heap) a k O->N a k->∃m,m<n/\∃i q p,Inv X c q p O/\U i O.heap/\(∀b∈C,p b=none)/\W i m q p:=fun {a k} l F=>by
   obtain⟨m',hm,w7⟩:=hN a k F;refine⟨m',hm,i+1,a,k,l.tS,T.keep _ _ _ E fun b j o e=>(l.pin (b,o) (iW _ (iW _ (rW j e)))).1,fun b j=>?_,w7⟩
   obtain⟨o,e,d⟩:=T.obj _ _ E b j;exact (l.pin (b,o) (iW _ (iW _ (rW j e)))).2.1
  cases f with
  | next=>obtain⟨a,k,l,F⟩:=y;exact again l F
  | cont=>obtain⟨a,k,l,F⟩:=y;exact again l F
  | brk=>obtain⟨a,k,l,y⟩:=y;exact⟨a,k,l.tS,y⟩
  | ret v=>obtain⟨x7,a,k,l,r7,y⟩:=y;exact⟨x7,a,k,l.tS,r7,y⟩
end
abbrev R2:=V->V->Hp->VK->Prop
def aI(X:Cx)(f:bR->bR->Sem bR)(r:R2):Prop :=
 ∀(a:List (dR×wm)) (s:dr) (b:St) (H:Hp) (x y:V) (v u:bR) (Q:VK),Inv X a b H s->RelV x v->RelV y u->r x y H Q ->
  gW (ib X.prog X.w) X.A (f v u) (EP X a b Q) X.xe s
def xK(X:Cx)(f:bR->Sem bR)(r:V->Hp->VK->Prop):Prop :=
 ∀(a:List (dR×wm)) (s:dr) (b:St) (H:Hp) (x:V) (v:bR) (Q:VK),Inv X a b H s->RelV x v->r x H Q ->
  gW (ib X.prog X.w) X.A (f v) (EP X a b Q) X.xe s
def bK(X:Cx)(f:bR)(r:List V->Hp->VK->Prop):Prop :=
 ∀(a:List (dR×wm)) (s:dr) (b:St) (H:Hp) (xs:List V) (us:List bR) (Q:VK),Inv X a b H s->aD xs us->r xs H Q ->
  gW (ib X.prog X.w) X.A (call f us) (EP X a b Q) X.xe s
def Qz(X:Cx)(r:V->Hp->(Bool->Hp->Prop)->Prop):Prop :=
 ∀(a:List (dR×wm)) (s:dr) (b:St) (H:Hp) (x:V) (v:bR) (Q:Bool->Hp->Prop),Inv X a b H s->RelV x v->r x H Q ->
  gW (ib X.prog X.w) X.A (ZX v) (TP X a b Q) X.xe s
def nh(r:R2)(b c:TE):TE:=fun a H Q=>b a H fun x d=>c a d fun y e=>r x y e Q
def NF(r:V->Hp->VK->Prop)(a:TE):TE:=fun b H Q=>a b H fun x c=>r x c Q
def rI(C:Int->Int->Prop)(g:Int->Int->V):R2:=fun x y H Q=>∃i j,x=.int i/\y=.int j/\C i j/\Q (g i j) H
def gX(g:Int->Int->V):R2:=fun x y H Q=>∃i j,x=.int i/\y=.int j/\Q (g i j) H
def rU(g:Int->V):V->Hp->VK->Prop:=fun x H Q=>∃i,x=.int i/\Q (g i) H
section
variable{X:Cx}{a b c:gi}{ta tb tc:TE}{pos:u3}
theorem wu(m:PE X a ta)(n:PE X b tb){d:List (dR×wm)}{s:dr}{e:St}{H:Hp}{R:V->V->Hp->Prop}(I:Inv X d e H s)
 (h:ta e H fun x j=>tb e j fun y g=>R x y g){Q:bR->dr->Prop}{f:bR->bR->Sem bR}
 (o:∀v u i x y g,Inv X d e g i->RelV x v->RelV y u->R x y g->gW (ib X.prog X.w) X.A (f v u) Q X.xe i) :
  gW (ib X.prog X.w) X.A (eval a X.env) (fun v k=>gW (ib X.prog X.w) X.A (eval b X.env) (fun u l=>gW (ib X.prog X.w) X.A (f v u) Q X.xe l) X.xe k) X.xe s:=by
 refine aC (m d s e H _ I h) fun v p ⟨x,j,q,r,t⟩=>?_
 refine aC (n d p e j _ q t) fun u i ⟨y,g,z,B,C⟩=>?_
 exact o v u i x y g z r B C
theorem Kz{op:Operator}{r:R2}(ho:aI X (L1 op) r)(e:PE X a ta)(f:PE X b tb):PE X (.BinOp a op b pos) (nh r ta tb):=by
 intro d s g H Q I h;exact wpAny_BinOp (wu e f I h fun v u i x y j k l m q=>ho d i g j x y v u Q k l m q)
theorem Fi{op:UnaryOp}{r:V->Hp->VK->Prop}(ho:xK X (unaryOp op) r)(f:PE X a ta):PE X (.UnaryOp op a pos) (NF r ta):=by
 intro d s e H Q I h;exact UnaryOp_ (aC (f d s e H _ I h) fun v g ⟨x,i,j,k,l⟩=>ho d g e i x v Q j k l)
theorem sA{f:bR->bR->Sem bR}{C:Int->Int->Prop}{g:Int->Int->Int}
 (rule:∀(i j:Int) (t u:Tok) (s:dr) (Q:bR->dr->Prop) (E:bR->dr->Prop),C i j->Q (.int (g i j) s.toks) {s with toks:=s.toks+1}->gW (ib X.prog X.w) X.A (f (.int i t) (.int j u)) Q E s) :
  aI X f (rI C fun i j=>.int (g i j)):=by
 intro pins s σ H x y v u Q I d e h;obtain⟨i,j,rfl,rfl,k,q⟩:=h;obtain⟨t,rfl⟩:=d;obtain⟨t',rfl⟩:=e;exact rule i j t t' s _ _ k ⟨.int (g i j),H,I.tok _,⟨_,rfl⟩,q⟩
theorem BC{f:bR->bR->Sem bR}{g:Int->Int->Int}
 (rule:∀(i j:Int) (t u:Tok) (s:dr) (Q:bR->dr->Prop) (E:bR->dr->Prop),Q (.int (g i j) s.toks) {s with toks:=s.toks+1}->gW (ib X.prog X.w) X.A (f (.int i t) (.int j u)) Q E s) :
  aI X f (gX fun i j=>.int (g i j)):=by
 intro pins s σ H x y v u Q I d e h;obtain⟨i,j,rfl,rfl,q⟩:=h;obtain⟨t,rfl⟩:=d;obtain⟨t',rfl⟩:=e;exact rule i j t t' s _ _ ⟨.int (g i j),H,I.tok _,⟨_,rfl⟩,q⟩
theorem rH{f:bR->bR->Sem bR}{g:Int->Int->Bool}
 (rule:∀(i j:Int) (t u:Tok) (s:dr) (Q:bR->dr->Prop) (E:bR->dr->Prop),Q (.bool (g i j)) s->gW (ib X.prog X.w) X.A (f (.int i t) (.int j u)) Q E s) :
  aI X f (gX fun i j=>.bl (g i j)):=by
 intro pins s σ H x y v u Q I d e h;obtain⟨i,j,rfl,rfl,q⟩:=h;obtain⟨t,rfl⟩:=d;obtain⟨t',rfl⟩:=e;exact rule i j t t' s _ _ ⟨.bl (g i j),H,I,rfl,q⟩
def ON(i j:Int):Prop:=0<=j/\j<=1000000/\i.natAbs<2 ^ 64
theorem Lp:aI X (L1 .Add) (gX fun i j=>.int (i+j)):=BC fun _ _ _ _ _ _ _ q=>add_int q
theorem Ip:aI X (L1 .Sub) (gX fun i j=>.int (i-j)):=BC fun _ _ _ _ _ _ _ q=>sub_int q
theorem Kq:aI X (L1 .Mod) (rI (fun _ j=>0<j) fun i j=>.int (i%j)):=sA fun i j _ _ _ _ _ d q=>by
 exact mod_int' (by lia) (by rw[Int.fmod_eq_emod_of_nonneg i (by lia)];exact q)
theorem PM:aI X (L1 .Pow) (rI ON fun i j=>.int (i ^ j.toNat)):=sA fun _ _ _ _ _ _ _ d q=>pow_int_small d.1 d.2.1 d.2.2 q
theorem JX{f:bR->Sem bR}{g:Int->Int}
 (rule:∀(i:Int) (t:Tok) (s:dr) (Q:bR->dr->Prop) (E:bR->dr->Prop),Q (.int (g i) s.toks) {s with toks:=s.toks+1}->gW (ib X.prog X.w) X.A (f (.int i t)) Q E s) :
  xK X f (rU fun i=>.int (g i)):=by
 intro pins s σ H x v Q I d h;obtain⟨i,rfl,q⟩:=h;obtain⟨t,rfl⟩:=d;exact rule i t s _ _ ⟨.int (g i),H,I.tok _,⟨_,rfl⟩,q⟩
theorem Fm:xK X (unaryOp .USub) (rU fun i=>.int (-i)):=JX fun _ _ _ _ _ q=>neg_int q
noncomputable def Ir:V->V->Bool
 | .aB,.aB=>true|.aB,.int _=>true|.int _,.aB=>true|.aB,.bl _=>true|.bl _,.aB=>true|.aB,.str _=>true|.str _,.aB=>true
 | .int _,.int _=>true|.bl _,.bl _=>true|.str _,.str _=>true|.iB _,.iB _=>true
 | .int _,.str _=>true|.str _,.int _=>true|.bl _,.str _=>true|.str _,.bl _=>true
 | _,_=>false
def K6:R2:=fun x y H Q=>Ir x y=true/\Q (.bl (decide (x=y))) H
theorem Kn{i j:Int}:decide (V.int i=V.int j)=(i==j):=by
 rw[n4];simp
theorem O8{i j:Bool}:decide (V.bl i=V.bl j)=(i==j):=by
 rw[n4];simp
theorem Lb{i j:eA}:decide (V.str i=V.str j)=(i==j):=by
 rw[n4];simp
theorem Lv{i j:Array UInt8}:decide (V.iB i=V.iB j)=(i.toList==j.toList):=by
 rw[n4];cases i;cases j;simp
theorem eI{d:List (dR×wm)}{f:St}{H:Hp}{s:dr}{Q:VK}{k g:Bool}(I:Inv X d f H s)(q:Q (.bl k) H)(e:k=g):EP X d f Q (.bool g) s:=by
 subst e;exact⟨.bl k,H,I,rfl,q⟩
theorem Hg:aI X (k7 .Eq) K6:=by
 intro pins s σ H x y v u Q I e d h;obtain⟨hs,q⟩:=h;cases x with
 | aB =>
  cases e;cases y with
  | aB=>subst d;exact aaV (eI I q (by simp))
  | bl j=>subst d;exact aaX (eI I q (by simp))
  | int j=>obtain⟨t',rfl⟩:=d;exact aaW (eI I q (by simp))
  | str j=>obtain⟨t',rfl⟩:=d;exact aaU (eI I q (by simp))
  | _=>exact absurd (show false=true from hs) t8
 | bl i =>
  subst e;cases y with
  | aB=>subst d;exact aaZ (eI I q (by simp))
  | bl j=>subst d;exact eq_bool (eI I q O8)
  | str j=>obtain⟨t',rfl⟩:=d;exact aaH (eI I q (by simp))
  | _=>exact absurd (show false=true from hs) t8
 | int i =>
  obtain⟨t,rfl⟩:=e;cases y with
  | aB=>subst d;exact aaY (eI I q (by simp))
  | int j=>obtain⟨t',rfl⟩:=d;exact eq_int (eI I q Kn)
  | str j=>obtain⟨t',rfl⟩:=d;exact aaG (eI I q (by simp))
  | _=>exact absurd (show false=true from hs) t8
 | str i =>
  obtain⟨t,rfl⟩:=e;cases y with
  | aB=>cases d;exact aaT (eI I q (by simp))
  | bl j=>cases d;exact aaF (eI I q (by simp))
  | int j=>obtain⟨t',rfl⟩:=d;exact aaE (eI I q (by simp))
  | str j=>obtain⟨t',rfl⟩:=d;exact eq_str (eI I q Lb)
  | _=>exact absurd (show false=true from hs) t8
 | iB i =>
  obtain⟨t,rfl⟩:=e;cases y with
  | iB j=>obtain⟨t',rfl⟩:=d;exact W.eq_bytes (eI I q Lv)
  | _=>exact absurd (show false=true from hs) t8
 | _=>cases y<;>exact absurd (show false=true from hs) t8
theorem CJ:aI X (k7 .Lt) (gX fun i j=>.bl (decide (i<j))):=rH fun _ _ _ _ _ _ _ q=>lt_int q
theorem Pj:aI X (k7 .LtE) (gX fun i j=>.bl (decide (i<=j))):=rH fun _ _ _ _ _ _ _ q=>le_int q
theorem Nw:aI X (k7 .Gt) (gX fun i j=>.bl (decide (j<i))):=rH fun _ _ _ _ _ _ _ q=>gt_int q
theorem LV:aI X (k7 .GtE) (gX fun i j=>.bl (decide (j<=i))):=rH fun _ _ _ _ _ _ _ q=>ge_int q
theorem yT:aI X (k7 .Lt) (fun x y H Q=>∃i j,x=.str i/\y=.str j/\Q (.bl (decide (i.cps.toList<j.cps.toList))) H):=by
 intro pins s σ H x y v u Q I d e h;obtain⟨i,j,rfl,rfl,q⟩:=h;obtain⟨t,rfl⟩:=d;obtain⟨t',rfl⟩:=e;exact lt_str (eI I q rfl)
theorem HG:aI X (k7 .In) (fun x y H Q=>∃i j,x=.str i/\y=.str j/\Q (.bl (!(vT j i 0 j.length 1).isEmpty)) H):=by
 intro pins s σ H x y v u Q I d e h;obtain⟨i,j,rfl,rfl,q⟩:=h;obtain⟨t,rfl⟩:=d;obtain⟨t',rfl⟩:=e;exact in_str (eI I q rfl)
theorem QJ:aI X (k7 .Is) (fun x y H Q=>y=.aB/\Q (.bl (decide (x=.aB))) H):=by
 intro pins s σ H x y v u Q I d e h;obtain⟨rfl,q⟩:=h;subst e;refine is_none_gen (eI I q ?_);cases x<;>first
  | (subst d;rfl)
  | (obtain⟨t,rfl⟩:=d;rfl)
theorem aI.or{f:bR->bR->Sem bR}{r e:R2}(h:aI X f r)(h':aI X f e):aI X f (fun x y H Q=>r x y H Q\/e x y H Q):=by
 intro d s g H x y v u Q I i j q
 rcases q with q|q
 ·exact h d s g H x y v u Q I i j q
 ·exact h' d s g H x y v u Q I i j q
theorem j6(b:gi){op:X7}(h:op≠.In:=by decide)(d:op≠.NotIn:=by decide):sW op b=false:=by
 have e:(op==abh)=false:=by cases op<;>first|rfl|exact absurd rfl h
 have f:(op==aan)=false:=by cases op<;>first|rfl|exact absurd rfl d
 cases b<;>simp[sW,e,f]
theorem CC{op:X7}{r:R2}(ho:aI X (k7 op) r)(e:PE X a ta)(f:PE X b tb)(hm:sW op b=false):PE X (.Compare a [op] [b] pos) (nh r ta tb):=by
 intro d s g H Q I h;exact wpAny_Compare1 (wu e f I h fun v u i x y j k l m q=>ho d i g j x y v u Q k l m q) hm
def yk(t:TE):TT:=fun d H Q=>t d H fun x e=>∃k,x=.bl k/\Q k e
theorem qU{op:X7}{r:R2}(ho:aI X (k7 op) r)(g:PE X a ta)(i:PE X b tb)(hm:sW op b=false):PT X (.Compare a [op] [b] pos) (yk (nh r ta tb)):=by
 intro d s f H Q I h;refine wpAny_isTrue_Compare1 (aC (g d s f H _ I h) fun v j ⟨x,l,m,n,o⟩=>aC (i d j f l _ m o) fun u p ⟨y,q,t,w,A⟩ =>
  aC (ho d p f q x y v u _ t n w A) fun c s3 ⟨z,B,C,D,k,e,E⟩=>?_) hm
 subst e;subst D;exact z0 ⟨B,C,E⟩
def x5(r f:R2)(ta tb tc:TE):TE:=fun d H Q=>ta d H fun x g=>tb d g fun y h=>r x y h fun z e=>∃k,z=.bl k /\
 (if k=true then tc d e fun i j=>f y i j Q else Q (.bl false) e)
theorem Gh{op g:X7}{r j:R2}(ho:aI X (k7 op) r)(l:aI X (k7 g) j)(q:PE X a ta)(t:PE X b tb)(w:PE X c tc)
 (hm:W2 [op,g] [b,c]=false:=by with_unfolding_all rfl):PE X (.Compare a [op,g] [b,c] pos) (x5 r j ta tb tc):=by
 intro f s i H Q I h;refine Compare_chain (aC (q f s i H _ I h) fun v A ⟨x,B,C,D,E⟩=>chain_link (aC (t f A i B _ C E) fun u F ⟨y,G,J,m,K⟩ =>
  aC (ho f F i G x y v u _ J D m K) fun d s3 ⟨z,n,o,L,k,e,p⟩=>?_)) hm
 subst e;subst L;refine z0 ?_;cases k with
 | false=>exact ite_ff ⟨.bl false,n,o,rfl,p⟩
 | true=>exact ite_tt (chain_last (aC (w f s3 i n _ o p) fun M s4 ⟨N,O,P,R,S⟩=>l f s4 i O y N u M Q P m R S))
theorem PN{op g:X7}{r j:R2}(ho:aI X (k7 op) r)(l:aI X (k7 g) j)(q:PE X a ta)(t:PE X b tb)(w:PE X c tc)
 (hm:W2 [op,g] [b,c]=false:=by with_unfolding_all rfl):PT X (.Compare a [op,g] [b,c] pos) (yk (x5 r j ta tb tc)):=by
 intro f s i H Q I h;refine isTrue_chain (aC (q f s i H _ I h) fun v A ⟨x,B,C,D,E⟩=>test_link (aC (t f A i B _ C E) fun u F ⟨y,G,J,m,K⟩ =>
  aC (ho f F i G x y v u _ J D m K) fun d s3 ⟨z,n,o,L,k,e,p⟩=>?_)) hm
 subst e;subst L;refine z0 ?_;cases k with
 | false =>
  obtain⟨k',M,N⟩:=p;cases M;exact ite_ff ⟨n,o,N⟩
 | true =>
  refine ite_tt (test_last (aC (w f s3 i n _ o p) fun O s4 ⟨P,R,S,T,U⟩=>aC (l f s4 i R y P u O _ S m T U) fun d' s5 ⟨z2,V,W,Y,k2,Z,q5⟩=>?_))
  subst Z;subst Y;exact z0 ⟨V,W,q5⟩
def oR(K:fj)(x:V)(H:Hp)(k:Bool):Prop :=
 match x with
 | .aB=>k=false
 | .bl b=>k=b
 | .int i=>k=(i != 0)
 | .str y=>y.length<=dk/\k=((y.length:Int) != 0)
 | .iB y=>y.size<=dk/\k=((y.size:Int) != 0)
 | .ref p=>(∃xs,cf K H p xs/\k=!xs.isEmpty)\/(∃xs,aV K H p xs/\k=!xs.isEmpty)\/∃kvs,H p=some (.dK kvs)/\k=!kvs.isEmpty
 | _=>False
theorem Ib{d:Type}{kvs:List (d×V)}{vs:List (d×bR)}(r:KV kvs vs):(!vs.isEmpty)=!kvs.isEmpty:=by
 cases r<;>rfl
theorem Ez{xs:List V}{its:List bR}(r:aD xs its):(!its.toArray.isEmpty)=!xs.isEmpty:=by
 cases r<;>simp
theorem ki:(dk:Nat)<2 ^ 63:=by rw[zd];decide
theorem wB:Qz X (fun x H Q=>∃k,oR X.K x H k/\Q k H):=by
 intro pins s σ H x v Q I f h;obtain⟨k,e,q⟩:=h;have hs:=zd;cases x with
 | aB =>
  subst f;have d:=e;subst d;exact truthy_none ⟨H,I,q⟩
 | bl b =>
  subst f;have d:=e;subst d;exact z0 ⟨H,I,q⟩
 | int i =>
  obtain⟨t,rfl⟩:=f;have d:=e;subst d;exact PySem.P.truthy_int ⟨H,I,q⟩
 | str y =>
  obtain⟨t,rfl⟩:=f;obtain⟨o,d⟩:y.length<=dk/\k=((y.length:Int) != 0):=e;subst d;exact PySem.P.truthy_str (by omega) ⟨H,I.tok _,q⟩
 | iB y =>
  obtain⟨t,rfl⟩:=f;obtain⟨o,d⟩:y.size<=dk/\k=((y.size:Int) != 0):=e;subst d;exact W.truthy_bytes (by lia) ⟨H,I.tok _,q⟩
 | ref p =>
  subst f;have d:=e
  rcases d with⟨xs,g,d⟩|⟨xs,g,d⟩|⟨kvs,g,d⟩
  ·subst d;obtain⟨its,r,l,n⟩:=I.list g;have j:=r.length;exact wpAny_truthy_list l.isList (by simp only[eT];omega) ⟨H,I.tok _,by rw[Ez r];exact q⟩
  ·subst d;obtain⟨its,r,l,n⟩:=I.tuple g;have j:=r.length;exact truthy_tuple l (by simp only[eT];omega) ⟨H,I.tok _,by rw[Ez r];exact q⟩
  ·subst d;obtain⟨n,u,vs,r,m⟩:kvs.length<=dk/\(p==Sa)=false/\∃vs,KV kvs vs/\s.heap.DictOf (cG X.prog X.w) p vs:=I.ai p _ g;have j:=Paired.length r;exact wpAny_truthy_dict u m (by omega) ⟨H,I.tok _,by rw[Ib r];exact q⟩
 | _=>exact (e).elim
theorem J3(i:PE X a ta)(j:∀d,Ym a X.env d=(do let v <-d;Xz a.pos;UR [v] (ZX v))) :
  PT X a (fun f H Q=>ta f H fun x g=>∃k,oR X.K x g k/\Q k g):=by
 intro e s f H Q I h;exact isTrue_plain (aC (i e s f H _ I h) fun v l ⟨x,m,n,o,p⟩=>wB e l f m x v Q n o p) (j _)
theorem E2:aI X (L1 .Add) (fun x y H Q=>∃i j,x=.str i/\y=.str j/\i.length+j.length<=dk/\Q (.str (i++j)) H):=by
 intro pins s σ H x y v u Q I d e h;obtain⟨i,j,rfl,rfl,f,q⟩:=h;obtain⟨t,rfl⟩:=d;obtain⟨t',rfl⟩:=e;exact add_str (fun t' tk=>⟨.str (i++j),H,I.tok _,⟨_,rfl⟩,q⟩) f
theorem vals1{x:V}{us:List bR}(r:aD [x] us):∃u,us=[u]/\RelV x u:=by
 cases r with
 | cons d e=>cases e;exact⟨_,rfl,d⟩
theorem vals2{x y:V}{us:List bR}(r:aD [x,y] us):∃u d,us=[u,d]/\RelV x u/\RelV y d:=by
 cases r with
 | cons e f =>
  cases f with
  | cons g h=>cases h;exact⟨_,_,rfl,e,g⟩
theorem Fs(e:X.calm=true):bK X (.builtin "max") (fun xs H Q=>∃i j,xs=[.int i,.int j]/\Q (.int (if j>i then j else i)) H):=by
 intro pins s σ H xs us Q I r h;obtain⟨i,j,rfl,q⟩:=h;obtain⟨u,w',rfl,⟨t,rfl⟩,⟨t',rfl⟩⟩:=vals2 r;refine max_two_ints (I.ok.hd e) fun h' tk k=>⟨_,H,I.kept k,?_,q⟩
 by_cases d:j>i
 ·rw[if_pos d,if_pos d];exact⟨_,rfl⟩
 ·rw[if_neg d,if_neg d];exact⟨_,rfl⟩
theorem FE(e:X.calm=true):bK X (.builtin "min") (fun xs H Q=>∃i j,xs=[.int i,.int j]/\Q (.int (if j<i then j else i)) H):=by
 intro pins s σ H xs us Q I r h;obtain⟨i,j,rfl,q⟩:=h;obtain⟨u,w',rfl,⟨t,rfl⟩,⟨t',rfl⟩⟩:=vals2 r;refine min_two_ints (I.ok.hd e) fun h' tk k=>⟨_,H,I.kept k,?_,q⟩
 by_cases d:j<i
 ·rw[if_pos d,if_pos d];exact⟨_,rfl⟩
 ·rw[if_neg d,if_neg d];exact⟨_,rfl⟩
theorem NR:bK X (.type "int") (fun xs H Q=>(∃i,xs=[.int i]/\Q (.int i) H)\/∃k,xs=[.bl k]/\Q (.int (if k then 1 else 0)) H):=by
 intro pins s σ H xs us Q I r h
 rcases h with⟨i,rfl,q⟩|⟨k,rfl,q⟩
 ·obtain⟨u,rfl,t,rfl⟩:=vals1 r;exact call_int_int ⟨.int i,H,I,⟨_,rfl⟩,q⟩
 ·obtain⟨u,rfl,d⟩:=vals1 r;subst d;exact call_int_bool ⟨.int (if k then 1 else 0),H,I.tok _,⟨_,rfl⟩,q⟩
end
theorem jy.some_of{v:V}{o:Option bR}(r:jy (some v) o):∃u,o=some u/\RelV v u:=by
 cases o with
 | none=>exact (r).elim
 | some u=>exact⟨u,rfl,r⟩
structure Room (k:Nat) (A:n6):Prop where
 hd:A.handled=none
 dp:A.depth+3*k+5<recursionLimit
 un:A.units+16*k+200<uz
theorem Room.mono{j k:Nat}{A:n6}(r:Room k A)(h:j<=k):Room j A:=⟨r.hd,by have:=r.dp;omega,by have:=r.un;omega⟩
theorem Room.deeper{k:Nat}{A:n6}(r:Room (k+1) A)(env:Xo):Room k (A.deeper env) :=
 ⟨r.hd,by have:=r.dp;show A.depth+1+3*k+5<_;omega,by have:=r.un;show A.units+3+16*k+200<_;omega⟩
theorem Room.depth{k:Nat}{A:n6}(r:Room k A):A.depth<recursionLimit:=by have:=r.dp;omega
def Cz:TA:=fun _ H Q=>Q [] H
def LM(b:TE)(tr:TA):TA:=fun a H Q=>b a H fun x c=>tr a c fun xs d=>Q (x::xs) d
section
variable{X:Cx}{e:gi}{es:List gi}{te:TE}{t:TA}{pos:u3}
theorem iY:PA X [] Cz:=fun _ _ _ _ H Q I h=>Calls.spliced_nil ⟨[],H,I,.nil,h⟩
theorem dE(c:PE X e te)(d:PA X es t)(hs:bp X e es:=by rfl):PA X (e::es) (LM te t):=by
 intro pos a s b H Q I h;rw[hs];refine Calls.spliced_cons (aC (c a s b H _ I h) fun u f ⟨x,g,i,j,k⟩=>?_)
 exact aC (d pos a f b g _ i k) fun us s2 ⟨xs,l,m,n,o⟩=>⟨x::xs,l,m,.cons j n,o⟩
def HJ(t:TA):TE:=fun b H Q=>t b H fun xs a=>xs.length<=dk/\∀p,a p=none->Q (.ref p) (upd a p (.tup xs))
def P6(t:TA):TE:=fun b H Q=>t b H fun xs a=>xs.length<=dk/\∀p,a p=none->Q (.ref p) (upd a p (.lst xs))
theorem uI{g}(h:PA X es t):PE X (.Tuple es g pos) (HJ t):=by
 intro c s i H Q I j;refine wpAny_Tuple_spliced (aC (h pos c s i H _ I j) fun us a ⟨xs,d,f,r,z,q⟩=>⟨by rw[<-r.length];exact z,?_⟩)
 have k:=f.ai.fresh (eB _);refine⟨.ref a.heap.objs.size,upd d a.heap.objs.size (.tup xs),f.laid (fun b u e=>eu _ e) (eB _) ?_,rfl,q _ k⟩
 exact⟨z,us,r,⟨_,hG _ rfl,rfl,_,rfl⟩⟩
theorem LU(h:PA X es t):PE X (.List es pos) (P6 t):=by
 intro c s g H Q I i;refine wpAny_List_spliced (aC (h pos c s g H _ I i) fun us a ⟨xs,d,f,r,z,q⟩=>⟨by rw[<-r.length];exact z,?_⟩)
 have j:=f.ai.fresh (eB _);refine⟨.ref a.heap.objs.size,upd d a.heap.objs.size (.lst xs),f.laid (fun b u e=>eu _ e) (eB _) ?_,rfl,q _ j⟩
 exact⟨z,us,0,r,hG _ rfl⟩
end
abbrev Sp:=List V->Hp->VK->XK->Prop
abbrev ij:=List Xo->Hp->dr->XK->bR->dr->Prop
structure rh (P:iN) (w:nE) (K:fj) (mg:eA->Option bR) (base:nS) (A:n6) (outer:List Xo) (s:dr) (H:Hp):Prop where
 frames:A.frames=some outer
 mod:Mod K mg base
 bs:∀b o,base.get? b=some o->s.heap.get? b=some o/\H b=none
 iS:base.objs.size<=s.heap.objs.size
 gp:s.heap.FunFrames base outer
 jM:∀b∈cV outer,H b=none
 ai:bP P w H s.heap
 bare:WK s.gens
def CE(outer:List Xo)(P:iN)(w:nE)(H:Hp)(s:dr)(Q:VK)(u:bR)(s':dr):Prop :=
 ∃v a,s'.os=s.os/\WK s'.gens/\Un (cV outer) [] H a s.heap s'.heap/\bP P w a s'.heap/\RelV v u/\Q v a
def CR(CX:ij)(outer:List Xo)(P:iN)(w:nE)(H:Hp)(s:dr)(Q:VK)(E:XK)(r:Yq)(s':dr):Prop :=
 match r with
 | .ok (.ret u)=>CE outer P w H s Q u s'
 | .ok _=>False
 | .error e=>CX outer H s E e s'
structure aO (P:iN) (w:nE) (K:fj) (mg:eA->Option bR) (base:nS) (CX:ij) (k:Nat) (f:dR) (fd:hQ) (ps:List eA) (sp:Sp):Prop where
 len:∀vs H Q E,sp vs H Q E->vs.length=ps.length
 run:∀(A:n6) (outer:List Xo) (s:dr) (H:Hp) (args:Args) (us:List bR) (vs:List V) (Q:VK) (E:XK),Room k A->rh P w K mg base A outer s H->Zo s fd args (ps.zip us)->aD vs us->sp vs H Q E ->
  Wj (ib P w) A (.call (.ref f) args) (CR CX outer P w H s Q E) s
theorem aO.imp{P:iN}{w:nE}{K:fj}{mg:eA->Option bR}{base:nS}{CX:ij}{k:Nat}{f:dR}{b:hQ}{c:List eA}{sp a:Sp}(F:aO P w K mg base CX k f b c sp)
 (h:∀vs H Q E,a vs H Q E->sp vs H Q E):aO P w K mg base CX k f b c a :=
 ⟨fun vs H Q E q=>F.len vs H Q E (h _ _ _ _ q),fun A outer s H args us vs Q E d e g i hs=>F.run A outer s H args us vs Q E d e g i (h _ _ _ _ hs)⟩
section
variable{X:Cx}{pins:List (dR×wm)}{σ:St}{H:Hp}{s s':dr}
theorem Inv.B3(I:Inv X pins σ H s):rh X.prog X.w X.K X.mg X.base X.A X.stack s H :=
 ⟨I.ok.frames,I.ok.mod,I.bs,sq I.ok.iS I.sz,I.stack,I.wo,I.ai,I.bare⟩
theorem Inv.after{Q:VK}{u:bR}(I:Inv X pins σ H s)(h:CE X.stack X.prog X.w H s Q u s'):EP X pins σ Q u s':=by
 obtain⟨v,c,os,bare,un,ai,r,q⟩:=h;obtain⟨hh,g,d,t,a⟩:=s';obtain rfl:a=s.os:=os;exact⟨v,c,I.call un ai bare (fun b z=>absurd z (by simp)),r,q⟩
end
def C1(sp:Sp)(a:List V)(E:XK)(t:TA):TE:=fun b H Q=>t b H fun vs c=>sp (vs++a) c Q E
def Binds(K:fj)(b:hQ)(a:List eA)(ds:List bR):Prop :=
 ∀(s:dr) (us:List bR),K.In s.heap->(us++ds).length=a.length->Zo s b ⟨us,[]⟩ (a.zip (us++ds))
theorem Binds.all{K:fj}{b:hQ}{a:List eA}(h:∀us:List bR,us.length=a.length->Yn b ⟨us,[]⟩=pure (a.zip us)):Binds K b a []:=fun s us _ hl=>by
 rw[r4] at hl ⊢;exact .of_eq (h us hl)
def pK(CX:ij)(X:Cx)(E:XK):Prop:=∀(a:List (dR×wm)) (b:St) (H:Hp) (s:dr) (e:bR) (s':dr),Inv X a b H s->CX X.stack H s E e s'->X.xe e s'
section
variable{X:Cx}{CX:ij}{k:Nat}{f C:dR}{fd:hQ}{ps:List eA}{sp:Sp}{dvs:List V}{ds:List bR}{E:XK}{x m:eA}{p pos apos:u3}{e o:gi}{es:List gi}{ta:TE}{t:TA}
theorem BM{a:List (dR×wm)}{c:St}{H:Hp}{s:dr}{Q:VK}{us:List bR}{vs:List V}(F:aO X.prog X.w X.K X.mg X.base CX k f fd ps sp)(g:Room k X.A)(i:Binds X.K fd ps ds)(hd:aD dvs ds)(j:pK CX X E)
 (I:Inv X a c H s)(r:aD vs us)(h:sp (vs++dvs) H Q E):gW (ib X.prog X.w) X.A (call (.ref f) us) (EP X a c Q) X.xe s:=by
 have d:=r.append hd;have hl:(us++ds).length=ps.length:=by rw[<-d.length];exact F.len _ _ _ _ h
 refine ZU (Vo (F.run X.A X.stack s H ⟨us,[]⟩ (us++ds) (vs++dvs) Q E g I.B3 (i s us I.dZ hl) d h) fun r s' b=>?_)
 cases r with
 | error e=>exact j a c H s e s' I b
 | ok fl =>
  cases fl with
  | ret u=>exact I.after b
  | next=>exact za b
  | brk=>exact za b
  | cont=>exact za b
theorem Dh(F:aO X.prog X.w X.K X.mg X.base CX k f fd ps sp)(g:Room k X.A)(i:Gl X x)(hm:X.mg x=some (.ref f))(j:VA X.K (.ref f)=true)(l:Binds X.K fd ps ds)(hd:aD dvs ds)(n:pK CX X E)
 (u:PA X (e::es) t)(b:bb x:=by decide)(v:bp X e es:=by rfl)(c:(KX pos (lq es X.env)).any (·.1)=false:=by rfl) :
  PE X (.Call (.Name x p) (e::es) [] pos) (C1 sp dvs E t):=by
 intro a s y H Q I h;refine Vf (nC I i hm ?_ b);refine abd I.ok.mod.qE j (aC (u pos a s y H _ I h) fun us s1 ⟨vs,H1,d,r,q⟩=>⟨d.dZ,?_⟩) v c
 exact BM F g l hd n d r q
theorem LF(F:aO X.prog X.w X.K X.mg X.base CX k f fd ps sp)(b:Room k X.A)(c:Gl X x)(hm:X.mg x=some (.ref f))(d:VA X.K (.ref f)=true)(g:Binds X.K fd ps ds)(hd:aD dvs ds)(i:pK CX X E)
 (a:bb x:=by decide):PE X (.Call (.Name x p) [] [] pos) (C1 sp dvs E Cz):=by
 intro pins s σ H Q I h;refine Vf (nC I c hm ?_ a);exact W.callWith_K0 I.dZ d (BM (us:=[]) F b g hd i I .nil h)
end
structure bw (N P:List eA) (sc:Ux):Prop where
 kind:sc.kind=.function
 co:sc.isCoroutine=false
 gen:sc.isGenerator=false
 nd:N.Nodup
 pre:N.take P.length=P
 par:∀x∈P,sc.names.lookup x=some .local\/sc.names.lookup x=some .cell
 Nc:∀y∈sc.names,y.2≠.free
theorem CB{VS:eA->Option W0}{x:eA}:∀{binds:List (eA×bR)}{m:eA->Option bR},(∀v,(x,v)∉binds)->Y0 VS binds m x=m x
 | [],_,_=>rfl
 | (n,v)::r,m,h=>by
  dsimp only[Y0];rw[CB fun w hw=>h w (fm _ hw)]
  split
  ·have:x≠n:=by rintro rfl;exact h v fv
   simp[this]
  ·rfl
theorem Cb{VS:eA->Option W0}{x:eA}:∀{binds:List (eA×bR)}{m:eA->Option bR},(∀v,(x,v)∉binds)->Y1 VS binds m x=m x
 | [],_,_=>rfl
 | (n,v)::r,m,h=>by
  dsimp only[Y1];rw[Cb fun w hw=>h w (fm _ hw)]
  split
  ·rfl
  ·have:x≠n:=by rintro rfl;exact h v fv
   simp[this]
theorem A8{VS:eA->Option W0}{x:eA}{v:bR}:∀{P:List eA}{vs:List bR}{i:Nat}{m:eA->Option bR},P.Nodup->P[i]?=some x->vs[i]?=some v->VS x=some .local ->
  Y0 VS (P.zip vs) m x=some v
 | [],_,_,_,_,h,_,_=>by simp at h
 | _::_,[],_,_,_,_,h,_=>by simp at h
 | p::P,w::vs,0,m,nd,a,b,c=>by
  simp at a b;subst a;subst b;show Y0 VS ((p,w)::P.zip vs) m p=_;dsimp only[Y0];rw[CB fun v d=>(me.mp nd).1 (Xv d).1,if_pos c]
  simp
 | p::P,w::vs,i+1,m,nd,a,b,c=>by
  unfold Y0;exact A8 (me.mp nd).2 (a) (b) c
theorem yN{VS:eA->Option W0}{x:eA}{v:bR}:∀{P:List eA}{vs:List bR}{i:Nat}{m:eA->Option bR},P.Nodup->P[i]?=some x->vs[i]?=some v->VS x≠some .local ->
  Y1 VS (P.zip vs) m x=some v
 | [],_,_,_,_,h,_,_=>by simp at h
 | _::_,[],_,_,_,_,h,_=>by simp at h
 | p::P,w::vs,0,m,nd,a,b,c=>by
  simp at a b;subst a;subst b;show Y1 VS ((p,w)::P.zip vs) m p=_;dsimp only[Y1];rw[Cb fun v d=>(me.mp nd).1 (Xv d).1,if_neg c]
  simp
 | p::P,w::vs,i+1,m,nd,a,b,c=>by
  unfold Y1;exact yN (me.mp nd).2 (a) (b) c
noncomputable def start(N:List eA)(vs:List V):St:=vs.map some++WH (N.length-vs.length) none
noncomputable def dA(CX:ij)(P:iN)(w:nE)(K:fj)(mg:eA->Option bR)(base:nS)(N:List eA)(a:eA)(scope:Ux)(f:dR)(cd:bR)(A:n6)(outer:List Xo)(s:dr)(H:Hp)(E:XK):Cx where
 prog:=P
 w:=w
 K:=K
 mg:=mg
 base:=base
 A:=A.deeper (Vu a scope s.heap.objs.size f cd)
 N:=N
 cE:=s
 pZ:=H
 env:=Vu a scope s.heap.objs.size f cd
 outer:=outer
 stack:=Vu a scope s.heap.objs.size f cd::outer
 ex:=[]
 calm:=true
 fn:=fun _=>true
 pn:=[]
 xe:=fun e s'=>gW (ib P w) (A.deeper (Vu a scope s.heap.objs.size f cd)) (leaving (Vu a scope s.heap.objs.size f cd) e) (fun _ b=>CX outer H s E e b) (fun c b=>CX outer H s E c b) s'
theorem zo{a:Ux}{n:Nat}{x:eA}(h:a.names.lookup x=some .cell):∃c,(aay n a.names []).lookup x=some c:=by
 have q:=Z8 a.names n [] (.inl h);exact LK.mp q
theorem E3{CX:ij}{P:iN}{w:nE}{K:fj}{mg:eA->Option bR}{base:nS}{N l:List eA}{j:eA}{scope:Ux}{f:dR}{cd:bR}{A:n6}{outer:List Xo}{s F:dr}{H:Hp}{E:XK}{us:List bR}{vs:List V}
 (S:bw N l scope)(hd:A.handled=none)(g:rh P w K mg base A outer s H)(hl:vs.length=l.length)(r:aD vs us)
 (x:InCallC s s.heap.objs.size (Y0 (Vu j scope s.heap.objs.size f cd).kindOf (l.zip us) fun _=>none) (aay (s.heap.objs.size+1) scope.names []) (Y1 (Vu j scope s.heap.objs.size f cd).kindOf (l.zip us) fun _=>none) F) :
  Inv (dA CX P w K mg base N j scope f cd A outer s H E) [] (start N vs) H F:=by
 have hpl:l.length<=N.length:=by have:=congrArg List.length S.pre;rw[l5] at this;lia
 obtain⟨B,tk,rfl,G⟩:=x.done;have o:∀b:dR,b∉(dA CX P w K mg base N j scope f cd A outer s H E).ex:=fun b z=>absurd (show b∈([]:List dR) from z) (by simp)
 refine⟨⟨g.mod,S.kind,rfl,rfl,eB _,fun y z c B d=>?_,fun y m=>?_,fun y c _ h=>?_,fun _=>hd,Around.frames_deeper g.frames,.inr ⟨rfl,rfl⟩,fun b z=>absurd z (o b),g.bs,g.iS,fun b _ _=>o b,fun b z=>absurd z (o b),g.gp,g.jM⟩,
  rfl,g.bare,Un.kept G,⟨_,x.toInCall.ns,fun i y v B d h3=>?_⟩,fun y c h=>⟨_,x.cell y c h⟩,g.ai.fresh (eB _),fun y c h=>?_,fun p t=>absurd (show p∈([]:List (dR×wm)) from t) (by simp),g.ai.kept G,?_⟩
 ·exact name_of_addr x.apart (UX B) (UX d)
 ·have m:=m
  rcases m with m|m
  ·exact zo m
  ·exact absurd rfl (S.Nc _ (UX m))
 ·exact Xd (x.above y c (UX h))
 ·have C:i<vs.length:=by
   unfold start at d
   by_cases C:i<vs.length
   ·exact C
   ·rw[lz (by simpa using C)] at d
    rw[Wd] at d;split at d<;>cases d
  have J:vs[i]?=some v:=by
   unfold start at d;rw[kq (by simpa using C),eo] at d
   cases e:vs[i]? with
   | none=>rw[e] at d;exact nO d
   | some a=>rw[e] at d;cases d;rfl
  obtain⟨u,I,L⟩:=r.get J;have t:l[i]?=some y:=by
   rw[<-S.pre,X' (by omega)];exact B
  have D:l.Nodup:=by rw[<-S.pre];exact S.nd.sublist (W5 _ _)
  refine⟨u,L,?_⟩
  rcases S.par y (eR t) with k|k
  ·exact .inl ⟨k,A8 D t I k⟩
  ·obtain⟨c,e⟩:=zo k;refine .inr ⟨.inl k,c,e,?_⟩;have q:=x.cell y c e;rw[yN D t I (by show scope.names.lookup y≠_;rw[k];decide)] at q
   exact q
 ·exact g.ai.fresh (Xd (x.above y c (UX h)))
 ·delta start;show _=N.length;rw[eH,a7,Wy];lia
theorem BN{CX:ij}{P:iN}{w:nE}{K:fj}{mg:eA->Option bR}{base:nS}{k:Nat}{f:dR}{name a:eA}{d:Arguments}{body:List Uz}{scope:Ux}{F kV p pm c ct U:bR}{G X:Option dR}
 {L:Array (Option bR)}{N j:List eA}{sp:Sp}(lk:K.lookup f=some ⟨U,X,.func (W' name a d body scope F kV p pm G c ct),L⟩)(M:aaC K c a=true)(S:bw N j scope)
 (len:∀vs H Q E,sp vs H Q E->vs.length=j.length)
 (l:∀(A:n6) (outer:List Xo) (s:dr) (H:Hp) (vs:List V) (Q:VK) (E:XK),Room k (A.deeper (Vu a scope s.heap.objs.size f c))->sp vs H Q E ->
   ∃t,fA (dA CX P w K mg base N a scope f c A outer s H E) body t/\t {nx:=fun _ g=>Q .aB g,rt:=Q} (start N vs) H) :
  aO P w K mg base CX (k+1) f (W' name a d body scope F kV p pm G c ct) j sp:=by
 refine⟨len,fun A outer s H args us vs Q E C i Y r z=>?_⟩
 have hl:=len _ _ _ _ z;have O:=i.mod.qE.keeps fun b o e=>(i.bs b o e).1
 have R:=i.mod.nolimit.keeps fun b o e=>(i.bs b o e).1
 have m:∀y∈j.zip us,scope.names.lookup y.1=some .local\/(scope.names.lookup y.1=some .cell/\((aay (s.heap.objs.size+1) scope.names []).lookup y.1).isSome=true):=fun ⟨n,v⟩ Z=>by
  rcases S.par n (Xv Z).1 with q|q
  ·exact .inl q
  ·exact .inr ⟨q,Z8 _ _ _ (.inl q)⟩
 refine codeAny_call_function C.depth (O _ _ lk) rfl S.co S.gen rfl (W.codeRec_of O M) (Y _ _ _ _ ?_);refine wpAny_newFunctionEnv_cells S.kind m fun env he T x=>?_
 subst he;refine⟨R.keeps x.toInCall.keep,codeAny_func ?_⟩;obtain⟨t,ht,hq⟩:=l A outer s H vs Q E (C.deeper _) z;have I:Inv (dA CX P w K mg base N a scope f c A outer s H E) [] (start N vs) H T:=E3 S C.hd i hl r x;refine u2 (ht [] T (start N vs) H _ I hq) (fun fl s' hs=>?_) fun e s' hs=>hs
 have B:∀{h:St}{g:Hp}{v:V}{u:bR},Inv (dA CX P w K mg base N a scope f c A outer s H E) [] h g s'->RelV v u->Q v g->CE outer P w H s Q u s' :=
  fun {h g v u} J D q=>⟨v,g,J.os,J.bare,J.base,J.ai,D,q⟩
 cases fl with
 | ret u =>
  obtain⟨v,h,g,J,D,q⟩:=hs;exact B J D q
 | next =>
  obtain⟨h,g,J,q⟩:=hs;exact B (v:=V.aB) J rfl q
 | brk =>
  obtain⟨_,_,_,q⟩:=hs;exact za q
 | cont =>
  obtain⟨_,_,_,q⟩:=hs;exact za q
section
variable{X:Cx}{x:eA}{p pos:u3}{e:gi}{es:List gi}{t:TA}{id T:String}{r:List V->Hp->VK->Prop}
def ur(r:List V->Hp->VK->Prop)(t:TA):TE:=fun a H Q=>t a H fun vs b=>r vs b Q
theorem mT(f:bK X (.builtin id) r)(g:Gl X x)(hm:X.mg x=none)(i:Hz x=some (.builtin id))(j:PA X (e::es) t)(k:x≠"__name__":=by decide)(b:bb x:=by decide)
 (l:bp X e es:=by rfl)(c:(KX pos (lq es X.env)).any (·.1)=false:=by rfl):PE X (.Call (.Name x p) (e::es) [] pos) (ur r t):=by
 intro a s d H Q I h;refine Vf (mD I g hm i ?_ k b);exact aa8 (aC (j pos a s d H _ I h) fun us m ⟨vs,n,o,q,u⟩=>f a m d n vs us Q o q u) l c
theorem yf(f:bK X (.type T) r)(g:Gl X x)(hm:X.mg x=none)(i:Hz x=some (.type T))(j:PA X (e::es) t)(k:x≠"__name__":=by decide)(b:bb x:=by decide)
 (l:bp X e es:=by rfl)(c:(KX pos (lq es X.env)).any (·.1)=false:=by rfl):PE X (.Call (.Name x p) (e::es) [] pos) (ur r t):=by
 intro a s d H Q I h;refine Vf (mD I g hm i ?_ k b);exact Ts (aC (j pos a s d H _ I h) fun us m ⟨vs,n,o,q,u⟩=>f a m d n vs us Q o q u) l c
end
section
open PySem.SeqAt
open PySem.AutoSeq1 (wpAny_loadPart')
open PySem.MeetsSeq PySem.MeetsSeq2 PySem.MeetsSeq3
end
section
variable{prog:iN}{w:nE}{A:n6}{E:bR->dr->Prop}{s:dr}{X:Cx}{e:gi}{te:TE}{lo hi:Option gi}{tl th:TO}{pos p2:u3}
theorem Qb{t b:dR}{vs a:List bR}{Q:bR->dr->Prop}(l:Vv s.heap t vs.toArray)(m:Vv s.heap b a.toArray)(i:vs≠[])
 (o:a=[]->Q (.ref t) s)(p:a≠[]->Q (.ref s.heap.objs.size) {s with heap:=s.heap.push {cls:=.type "tuple",data:=.seq (vs++a).toArray} })
 (hsz:vs.length+a.length<=dk):gW (ib prog w) A (L1 .Add (.ref t) (.ref b)) Q E s:=by
 obtain⟨⟨cls,dd,data,sl⟩,ho,j,n,hd⟩:=id l;obtain⟨⟨cls2,d,data2,f⟩,c,g,k,h⟩:=id m;subst j hd g h;have e:vs.toArray++a.toArray=(vs++a).toArray:=by simp
 by_cases hw:a=[]
 ·exact Zg ⟨_,ho,rfl⟩ ⟨_,c,rfl⟩ aaw abo X1 XR (XJ _ _)
   (tuple_addW1 t b vs.toArray a.toArray n k dd d sl f (by simpa using i) (by simp[hw])) ⟨ho,c,o hw⟩
 ·refine Zg ⟨_,ho,rfl⟩ ⟨_,c,rfl⟩ aaw abo X1 XR (XJ _ _)
   (tuple_addW2 t b vs.toArray a.toArray n k dd d sl f (by simpa using i) (by simpa using hw) (by rw[eT,eT];exact hsz)) ⟨ho,c,?_⟩
  rw[e];exact p hw
noncomputable def aS(n d:Nat):Option Int->Nat
 | none=>d
 | some v=>if v<0 then (v+(n:Int)).toNat else min v.toNat n
theorem zT(n d:Nat):aS n d none=d:=rfl
theorem zQ(n d k:Nat):aS n d (some (k:Int))=min k n:=by
 rfl
theorem GH(n d:Nat)(hd:d<=n)(o:Option Int):aS n d o<=n:=by
 cases o with
 | none=>exact hd
 | some v =>
  show (if v<0 then (v+(n:Int)).toNat else min v.toNat n)<=n
  by_cases a:v<0
  ·rw[if_pos a];lia
  ·rw[if_neg a];exact Nat.min_le_right _ _
theorem Br(v:Int)(n d:Nat):(if v<0 then max (v+(n:Int)) 0 else min v (n:Int))=((aS n d (some v):Nat):Int):=by
 show (if v<0 then max (v+(n:Int)) 0 else min v (n:Int))=(((if v<0 then (v+(n:Int)).toNat else min v.toNat n):Nat):Int)
 grind
theorem Pc(lo hi:Option Int)(n:Nat):Vr lo hi 1 (n:Int)=(((aS n 0 lo:Nat):Int),((aS n n hi:Nat):Int)):=by
 refine ZS ?_ ?_
 ·cases lo with
  | none=>rfl
  | some v=>exact Br v n 0
 ·cases hi with
  | none=>rfl
  | some v=>exact Br v n n
theorem JJ(i j:Nat):UC (i:Int) (j:Int) 1=j-i:=by
 delta UC;grind
theorem B8{v:bR}{o:Option Int}{Q:Option Int->dr->Prop}(p:XZ v o)(h:Q o s):gW (ib prog w) A (aaJ v) Q E s:=by
 cases p with
 | none=>exact abl h
 | int i t=>exact slicePart_int h
theorem JS{sl:dR}{c d:bR}{lo hi:Option Int}{n:Nat}{Q:Int×Int×Nat->dr->Prop}(hs:s.heap.IsSliceOf sl c d .none)(f:XZ c lo)(g:XZ d hi)
 (h:Q (((aS n 0 lo:Nat):Int),1,aS n n hi-aS n 0 lo) s):gW (ib prog w) A (WQ (.ref sl) (pure (n:Int))) Q E s:=by
 obtain⟨os,a,hcs,b⟩:=id hs;refine cn (cn (ZE a b (x:=c) rfl (cn (ZE a b (x:=d) rfl (cn (ZE a b rfl (eK ?_)))))));refine cn (abl ?_);show gW _ _ (if ((1:Int)==0)=true then _ else _) _ _ s
 refine cn (B8 f (cn (B8 g (cn (eK ?_)))));show gW _ _ (match Vr lo hi 1 (n:Int) with|(lo,hi)=>pure (lo,(1:Int),UC lo hi 1)) _ _ s
 rw[Pc lo hi n];show gW _ _ (pure (((aS n 0 lo:Nat):Int),(1:Int),UC ((aS n 0 lo:Nat):Int) ((aS n n hi:Nat):Int) 1)) _ _ s;rw[JJ];exact eK h
theorem Ks(xs:Array bR)(i k:Nat):((ka k).filterMap fun (m:Nat)=>xs[((i:Int)+(m:Int)*1).toNat]?).toArray=((xs.toList.drop i).take k).toArray:=by
 have e:(fun (m:Nat)=>xs[((i:Int)+(m:Int)*1).toNat]?)=fun m=>xs[i+m]?:=by
  funext m;have:((i:Int)+(m:Int)*1).toNat=i+m:=by omega
  rw[this]
 rw[e];have:=pick_run xs i k;have a:((fun x=>xs[x]?) ∘ fun x=>i+x)=fun m=>xs[i+m]?:=rfl
 simp_all
theorem MJ{t sl:dR}{items:Array bR}{c d:bR}{lo hi:Option Int}{Q:bR->dr->Prop}(b:Vv s.heap t items)(hs:s.heap.IsSliceOf sl c d .none)(k:XZ c lo)(l:XZ d hi)
 (hw:¬(aS items.size 0 lo=0/\aS items.size items.size hi=items.size))
 (h:Q (.ref s.heap.objs.size) {s with heap:=s.heap.push {cls:=.type "tuple",data:=.seq ((items.toList.drop (aS items.size 0 lo)).take (aS items.size items.size hi-aS items.size 0 lo)).toArray} })
 (hsz:items.size<=dk):gW (ib prog w) A (W3 (.ref t) (.ref sl)) Q E s:=by
 have a:sizeOk (.seq ((items.toList.drop (aS items.size 0 lo)).take (aS items.size items.size hi-aS items.size 0 lo)).toArray):=by
  show ((items.toList.drop (aS items.size 0 lo)).take (aS items.size items.size hi-aS items.size 0 lo)).toArray.size<=dk;simp;omega
 obtain⟨os,f,g,hds⟩:=id hs;have i:s.TypeIs (.ref sl) "slice":=⟨os,f,g⟩;delta W3;try with_reducible refine sH ?_
 first|refine cn (eK ?_)|skip
 refine cn (wpAny_sequenceKey b.typeIs rfl ?_)
 refine cn (Vi b.typeIs Uy
  (wy Uy b.typeIs entry_tuple_getitem ?_ (args_tuple_getitem _ _)))
 show gW _ _ (aaI (.ref t) >>= _) _ _ s;refine cn (tupleItemsOf_ b ?_);refine cn (Za i ?_);rw[if_pos (by decide)]
 refine cn (JS hs k l ?_);have j:¬((((aS items.size 0 lo:Nat):Int)==0&&(1:Int)==1&&(aS items.size items.size hi-aS items.size 0 lo)==items.size)=true):=by
  intro q;rw[ee,ee] at q;have q1:=eq_of_beq q.1.1;have q2:=eq_of_beq q.2;exact hw ⟨by omega,by omega⟩
 show gW _ _ (if (((aS items.size 0 lo:Nat):Int)==0&&(1:Int)==1&&(aS items.size items.size hi-aS items.size 0 lo)==items.size)=true then _ else _) _ _ s
 rw[if_neg j,Ks]
 first
  | exact cn (z3 (eK ⟨_,rfl,eK h⟩) a)
  | exact cn (z3 (cn (eK (eK ⟨_,rfl,eK h⟩))) a)
  | exact cn (cn (z3 (eK (eK ⟨_,rfl,eK h⟩)) a))
  | exact cn (cn (z3 (eK ⟨_,rfl,eK h⟩) a))
abbrev TO:=St->Hp->(Option Int->Hp->Prop)->Prop
def PO(X:Cx)(e:Option gi)(t:TO):Prop :=
 ∀(a:List (dR×wm)) (s:dr) (b:St) (H:Hp) (Q:Option Int->Hp->Prop),Inv X a b H s->t b H Q ->
  gW (ib X.prog X.w) X.A (evalPart e X.env) (fun u s'=>∃o c,Inv X a b c s'/\XZ u o/\Q o c) X.xe s
def Kv:TO:=fun _ H Q=>Q none H
def F6(t:TE):TO:=fun a H Q=>t a H fun x b=>∃i,x=.int i/\Q (some i) b
theorem Kx:PO X none Kv:=by
 intro pins s σ H Q I h;exact eK ⟨none,H,I,.none,h⟩
theorem P7(h:PE X e te):PO X (some e) (F6 te):=by
 intro a s b H Q I hw;refine aC (h a s b H _ I hw) fun u s1 ⟨x,c,d,f,g⟩=>?_
 obtain⟨i,rfl,q⟩:=g;obtain⟨t,rfl⟩:=f;exact⟨some i,c,d,.int i t,q⟩
def k9(X:Cx)(r:V->Option Int->Option Int->Hp->VK->Prop):Prop :=
 ∀(a:List (dR×wm)) (s:dr) (b:St) (H:Hp) (x:V) (v c d:bR) (lo hi:Option Int) (sl:dR) (Q:VK),Inv X a b H s->RelV x v->s.heap.IsSliceOf sl c d .none->XZ c lo->XZ d hi->r x lo hi H Q ->
  ∃T id,V8 (.type T) "__getitem__"=pure (some (.builtin id))/\s.TypeIs v T/\gW (ib X.prog X.w) X.A (W3 v (.ref sl)) (EP X a b Q) X.xe s
theorem k9.or{r b:V->Option Int->Option Int->Hp->VK->Prop}(h:k9 X r)(h':k9 X b):k9 X (fun x lo hi H Q=>r x lo hi H Q\/b x lo hi H Q):=by
 intro a s c H x v d f lo hi sl Q I g hs i j q
 rcases q with q|q
 ·exact h a s c H x v d f lo hi sl Q I g hs i j q
 ·exact h' a s c H x v d f lo hi sl Q I g hs i j q
def ES(r:V->Option Int->Option Int->Hp->VK->Prop)(te:TE)(tl th:TO):TE:=fun a H Q=>te a H fun x b=>tl a b fun l c=>th a c fun u d=>r x l u d Q
theorem Gw{r:V->Option Int->Option Int->Hp->VK->Prop}(i:k9 X r)(j:PE X e te)(hl:PO X lo tl)(k:PO X hi th):PE X (.Subscript e (.Slice lo hi none p2) pos) (ES r te tl th):=by
 intro a s c H Q I h;refine Yz (aC (j a s c H _ I h) fun v m ⟨x,n,o,p,t⟩=>?_)
 refine wpAny_Slice (aC (hl a m c n _ o t) fun d y ⟨l,z,B,C,D⟩=>aC (k a y c z _ B D) fun f s3 ⟨u,g,F,G,J⟩=>?_)
 refine eK ?_;have K:Inv X a c g {s3 with heap:=s3.heap.push {cls:=.type "slice",data:=.fields #[d,f,.none]} }:=F.kept (t':=s3.toks) fun b ob q=>eu _ q
 obtain⟨T,id,L,M,N⟩:=i a {s3 with heap:=s3.heap.push {cls:=.type "slice",data:=.fields #[d,f,.none]} } c g x v d f l u s3.heap.objs.size Q K p (Xn ..) C G J
 exact abj M L N (by with_unfolding_all rfl)
def iE(xs:List V)(lo hi:Option Int):List V:=(xs.drop (aS xs.length 0 lo)).take (aS xs.length xs.length hi-aS xs.length 0 lo)
theorem Ey(xs:List V)(lo hi:Option Int):(iE xs lo hi).length<=xs.length:=by
 delta iE;rw[l5,se];lia
def ND(K:fj):V->Option Int->Option Int->Hp->VK->Prop:=fun x lo hi H Q=>∃a xs,x=.ref a/\aV K H a xs /\
 ¬(aS xs.length 0 lo=0/\aS xs.length xs.length hi=xs.length)/\∀p,H p=none->Q (.ref p) (upd H p (.tup (iE xs lo hi)))
theorem QQ:k9 X (ND X.K):=by
 intro pins s σ H x v vl vu lo hi sl Q I g hs i j h;obtain⟨a,xs,rfl,k,hw,q⟩:=h;subst g;obtain⟨its,r,d,f⟩:=I.tuple k;have c:its.toArray.size=xs.length:=by rw[eT];exact r.length.symm
 refine⟨"tuple",_,Uy.lookup,d.typeIs,?_⟩;refine MJ d hs i j (by rw[c];exact hw) ?_ (by rw[c];exact f)
 rw[c];refine⟨.ref s.heap.objs.size,_,I.laid (fun b ob q=>eu _ q) (eB _) ?_,rfl,q _ (I.ai.fresh (eB _))⟩
 exact⟨sq (Ey xs lo hi) f,_,(r.drop (aS xs.length 0 lo)).take (aS xs.length xs.length hi-aS xs.length 0 lo),Zr _ _⟩
def DP(K:fj):R2:=fun x y H Q=>∃a b xs ys,x=.ref a/\y=.ref b/\aV K H a xs/\aV K H b ys/\xs≠[]/\xs.length+ys.length<=dk /\
 (ys=[]->Q (.ref a) H)/\(ys≠[]->∀p,H p=none->Q (.ref p) (upd H p (.tup (xs++ys))))
theorem aD.wb{xs:List V}{us:List bR}(r:aD xs us):us=[] ↔ xs=[]:=by
 cases r with
 | nil=>simp
 | cons _ _=>simp
theorem E8:aI X (L1 .Add) (DP X.K):=by
 intro pins s σ H x y v u Q I g i h;obtain⟨a,b,xs,ys,rfl,rfl,j,k,l,f,m,n⟩:=h;subst g;subst i;obtain⟨its,d,p,_⟩:=I.tuple j;obtain⟨its2,c,p2,_⟩:=I.tuple k;refine Qb p p2 (fun z=>l (d.wb.mp z)) (fun z=>⟨.ref a,H,I,rfl,m (c.wb.mp z)⟩) (fun z=>?_) (by rw[<-d.length,<-c.length];exact f)
 refine⟨.ref s.heap.objs.size,_,I.laid (fun b ob q=>eu _ q) (eB _) ?_,rfl,n (fun w=>z (c.wb.mpr w)) _ (I.ai.fresh (eB _))⟩
 exact⟨by rw[eH];exact f,_,d.append c,Zr _ _⟩
end
noncomputable def fJ(n:Nat)(i:Int):Option Nat:=if 0<=i then (if i<n then some i.toNat else none) else if -(n:Int)<=i then some (i+n).toNat else none
def eZ{a:Type}(xs:List a)(i:Int):Option a:=(fJ xs.length i).bind fun j=>xs[j]?
theorem yE{n:Nat}{i:Int}{j:Nat}(h:fJ n i=some j):seqIndex? i n=some j/\j<n/\-(n:Int)<=i/\i<n:=by
 delta fJ at h
 by_cases b:0<=i
 ·rw[if_pos b] at h
  by_cases a:i<n
  ·rw[if_pos a] at h;have e:=Option.some.inj h;exact⟨by rw[ZF b a,e],by omega,by omega,a⟩
  ·rw[if_neg a] at h;exact nO h
 ·rw[if_neg b] at h
  by_cases a:-(n:Int)<=i
  ·rw[if_pos a] at h;have e:=Option.some.inj h;exact⟨by rw[Zc (by omega) a,e],by omega,a,by omega⟩
  ·rw[if_neg a] at h;exact nO h
theorem ux{a:Type}{xs:List a}{i:Int}{v:a}(h:eZ xs i=some v):∃j,seqIndex? i xs.length=some j/\xs[j]?=some v/\j<xs.length/\-(xs.length:Int)<=i/\i<xs.length:=by
 delta eZ at h;cases e:fJ xs.length i with
 | none=>rw[e] at h;exact nO h
 | some j =>
  rw[e] at h;obtain⟨b,c,d,f⟩:=yE e;exact⟨j,b,h,c,d,f⟩
theorem lE{a:Type}{xs:List a}{j:Nat}{v:a}(h:xs[j]?=some v):eZ xs (j:Int)=some v:=by
 have hj:=(bt.mp h).1;have e:fJ xs.length (j:Int)=some j:=by
  delta fJ;rw[if_pos (by omega),if_pos (by omega)];simp
 delta eZ;rw[e];exact h
def ny(b:gi):Prop:=∀o i,X4 b false o i=operate [o,i] (W3 o i)
def j5(X:Cx)(r:R2):Prop :=
 ∀(value slice:gi) (a:List (dR×wm)) (s:dr) (b:St) (H:Hp) (x y:V) (v u:bR) (Q:VK),Inv X a b H s->RelV x v->RelV y u->r x y H Q ->
  X4 slice false v u=operate [v,u] (W3 v u)->gW (ib X.prog X.w) X.A (YU value slice v u) (EP X a b Q) X.xe s
def sZ(X:Cx)(id:String)(r:V->List V->Hp->VK->Prop):Prop :=
 ∀(a:List (dR×wm)) (s:dr) (b:St) (H:Hp) (x:V) (xs:List V) (v:bR) (us:List bR) (Q:VK),Inv X a b H s->RelV x v->aD xs us->r x xs H Q ->
  gW (ib X.prog X.w) X.A (call (.builtin id) (v::us)) (EP X a b Q) X.xe s
section
variable{X:Cx}{a b:gi}{ta tb:TE}{pos:u3}
theorem j5.or{r d:R2}(h:j5 X r)(h':j5 X d):j5 X (fun x y H Q=>r x y H Q\/d x y H Q):=by
 intro value slice c s e H x y v u Q I f g q hs
 rcases q with q|q
 ·exact h value slice c s e H x y v u Q I f g q hs
 ·exact h' value slice c s e H x y v u Q I f g q hs
theorem yI{r:R2}(d:j5 X r)(e:PE X a ta)(f:PE X b tb)(hs:ny b):PE X (.Subscript a b pos) (nh r ta tb):=by
 intro c s g H Q I h;exact Yz (wu e f I h fun v u i x y j k l m q=>d a b c i g j x y v u Q k l m q (hs _ _))
def Cr(K:fj):R2:=fun x y H Q=>∃p xs i v,x=.ref p/\y=.int i/\cf K H p xs/\eZ xs i=some v/\Q v H
def Bp(K:fj):R2:=fun x y H Q=>∃p xs i v,x=.ref p/\y=.int i/\aV K H p xs/\eZ xs i=some v/\Q v H
def CF:R2:=fun x y H Q=>∃z i c,x=.str z/\y=.int i/\z.length<=dk/\eZ z.cps.toList i=some c/\Q (.str ⟨#[c]⟩) H
theorem PV:j5 X (Cr X.K):=by
 intro value slice c s k H x y v u Q I o A h hs;obtain⟨p,xs,i,z,rfl,rfl,B,C,q⟩:=h;subst o;obtain⟨t,rfl⟩:=A;obtain⟨its,r,f,hz⟩:=I.list B;obtain⟨j,d,D,h3,E,F⟩:=ux C;obtain⟨w,l,m⟩:=r.get D;have hl:=r.length;have hn:=ki;have e:EP X c k Q w s:=⟨z,H,I,m,q⟩
 by_cases n:0<=i
 ·have g:i.toNat=j:=by
   rw[ZF n F] at d;exact Option.some.inj d
  exact item_listR f.isList n (by omega) (by rw[g];simpa using l) e hs
 ·have g:(i+(its.toArray.size:Int)).toNat=j:=by
   rw[Zc (by omega) E] at d
   rw[eT,<-hl];exact Option.some.inj d
  exact Zp f.isList.typeIs XA.lookup
   (wpAny_getItem_list_neg f.isList (by omega) (by rw[eT]<;>omega) (by lia) (by rw[g];simpa using l) ⟨rfl,e⟩) hs
theorem F8:j5 X (Bp X.K):=by
 intro value slice c s d H x y v u Q I k l h hs;obtain⟨p,xs,i,z,rfl,rfl,m,n,q⟩:=h;subst k;obtain⟨t,rfl⟩:=l;obtain⟨its,r,e,hz⟩:=I.tuple m;obtain⟨j,o,A,h3,h4,h5⟩:=ux n;obtain⟨w,B,f⟩:=r.get A;have hl:=r.length;have hn:=ki;have g:EP X c d Q w s:=⟨z,H,I,f,q⟩;exact Zp e.typeIs Uy.lookup
  (getItem_tuple e (by lia) (by lia) (by rw[eT,<-hl];exact o) (by simpa using B) ⟨rfl,g⟩) hs
theorem Pd:j5 X CF:=by
 intro value slice pins s σ H x y v u Q I e f h hs;obtain⟨z,i,c,rfl,rfl,hz,g,q⟩:=h;obtain⟨t,rfl⟩:=e;obtain⟨t',rfl⟩:=f;obtain⟨j,d,k,h3,l,m⟩:=ux g;have hl:z.cps.toList.length=z.length:=by simp[Str.length]
 rw[hl] at d l m;have hn:=ki;exact abj (typeIs_str s z t) slot_str_getitem.lookup (getItem_str (by
  have n:decide (i < -(2 ^ 63:Int))=false:=decide_eq_false (by omega)
  have o:decide (i ≥ 2 ^ 63)=false:=decide_eq_false (by omega)
  rw[n,o,aad]) (by rw[d];simpa using k) ⟨.str ⟨#[c]⟩,H,I.tok _,⟨_,rfl⟩,q⟩) hs
def AZ(K:fj):R2:=fun x y H Q=>Cr K x y H Q\/Bp K x y H Q\/CF x y H Q
theorem zi:j5 X (AZ X.K):=PV.or (F8.or Pd)
theorem KI(its:List bR)(n j:Nat)(u:bR):Vq (·.setIfInBounds j u) {cls:=.type "list",data:=.seq its.toArray n}={cls:=.type "list",data:=.seq (its.set j u).toArray n}:=by
 simp[Vq]
theorem Inv.lst{c:List (dR×wm)}{d:St}{H:Hp}{s:dr}{p:dR}{xs:List V}(I:Inv X c d H s)(h:H p=some (.lst xs)) :
  ∃(its:List bR) (n:Nat),aD xs its/\s.heap.get? p=some {cls:=.type "list",data:=.seq its.toArray n}/\xs.length<=sizeLine:=by
 obtain⟨z,its,n,r,e⟩:=I.ai p _ h;exact⟨its,n,r,e,z⟩
theorem Inv.He{c:List (dR×wm)}{g:St}{H:Hp}{s:dr}{p:dR}{xs ys:List V}{its its':List bR}{n d:Nat}{f:wm->wm}(I:Inv X c g H s)(h:H p=some (.lst xs))
 (ho:s.heap.get? p=some {cls:=.type "list",data:=.seq its.toArray n})(i:f {cls:=.type "list",data:=.seq its.toArray n}={cls:=.type "list",data:=.seq its'.toArray d})(r:aD ys its')(j:ys.length<=dk)(t:Nat) :
  Inv X c g (upd H p (.lst ys)) {s with heap:=s.heap.update p f,toks:=t}:=by
 have e:(s.heap.update p f).get? p=some {cls:=.type "list",data:=.seq its'.toArray d}:=by
  rw[Yr f ho (by rw[i]<;>rfl),i]
 refine I.write (by rw[h];trivial) (.inl rfl) (fun b u k q=>(UB _ _ (Ne.symm k)).trans q) ⟨_,e⟩ ?_
 exact⟨j,its',d,r,e⟩
def FZ:V->V->V->Hp->(Hp->Prop)->Prop:=fun o i v H Q=>∃p xs k j,o=.ref p/\i=.int k/\H p=some (.lst xs)/\fJ xs.length k=some j/\Q (upd H p (.lst (xs.set j v)))
theorem set_list:AO X FZ:=by
 intro d s x H o i v ov iv u Q I y z A h;obtain⟨p,xs,k,j,rfl,rfl,f,B,q⟩:=h;subst y;obtain⟨t,rfl⟩:=z;obtain⟨its,n,r,ho,C⟩:=I.lst f;obtain⟨c,h2,g,l⟩:=yE B;have hl:=r.length;have hn:=ki;have m:Inv X d x (upd H p (.lst (xs.set j v))) {s with heap:=s.heap.update p (Vq (·.setIfInBounds j u))} :=
  I.He f ho (KI its n j u) (r.set A j) (by rw[zb];exact C) s.toks
 by_cases w:0<=k
 ·have e:k.toNat=j:=by
   rw[ZF w l] at c;exact Option.some.inj c
  exact W.ki_setAt ho w (by lia) (by rw[eT,<-hl];exact l) (by rw[e];exact⟨_,m,q⟩)
 ·have e:(k+(its.toArray.size:Int)).toNat=j:=by
   rw[Zc (by omega) g] at c
   rw[eT,<-hl];exact Option.some.inj c
  exact W.ki_setBack ho (by omega) (by rw[eT,<-hl];exact g) (by lia) (by rw[e];exact⟨_,m,q⟩)
theorem Nf(lo c:Option Int)(n:Nat):(VM lo c none n).1=((aS n 0 lo:Nat):Int)/\(VM lo c none n).2.1=((aS n n c:Nat):Int)/\(VM lo c none n).2.2=1:=by
 refine⟨?_,?_,rfl⟩
 ·cases lo with
  | none=>simp[VM,aS]
  | some i =>
   simp only[VM,aS,Y3,show (1:Int)>0 by decide,if_true]
   by_cases h:i<0
   ·simp only[h,if_true]<;>omega
   ·simp[h]<;>omega
 ·cases c with
  | none=>simp[VM,aS]
  | some i =>
   simp only[VM,aS,Y3,show (1:Int)>0 by decide,if_true]
   by_cases h:i<0
   ·simp only[h,if_true]<;>omega
   ·simp[h]<;>omega
theorem Ln(its:List bR)(lo c:Option Int):slicePick its.toArray lo c none=((its.drop (aS its.length 0 lo)).take (aS its.length its.length c-aS its.length 0 lo)).toArray:=by
 obtain⟨d,e,f⟩:=Nf lo c its.toArray.size;delta slicePick;simp only[d,e,f];simp only[sliceRange_one,pick_run]<;>rfl
def FP(K:fj):V->Option Int->Option Int->Hp->VK->Prop:=fun x lo c H Q=>∃a xs,x=.ref a/\cf K H a xs/\∀p,H p=none->Q (.ref p) (upd H p (.lst (iE xs lo c)))
theorem NX:k9 X (FP X.K):=by
 intro pins s σ H x v vl vu lo c sl Q I f hs g i h;obtain⟨a,xs,rfl,j,q⟩:=h;subst f;obtain⟨its,r,e,k⟩:=I.list j;have d:=r.length;refine⟨"list",_,XA.lookup,e.isList.typeIs,?_⟩;refine YM e.isList hs g i .none (by simp) ?_ (by rw[eT]<;>omega)
 rw[Ln,<-d];refine⟨.ref s.heap.objs.size,_,I.laid (fun b ob q=>eu _ q) (eB _) ?_,rfl,q _ (I.ai.fresh (eB _))⟩
 exact⟨sq (Ey xs lo c) k,_,0,(r.drop (aS xs.length 0 lo)).take (aS xs.length xs.length c-aS xs.length 0 lo),hG _ rfl⟩
theorem Qe:aI X (k7 .NotIn) (fun x y H Q=>∃i j,x=.str i/\y=.str j/\Q (.bl (!(!(vT j i 0 j.length 1).isEmpty))) H):=by
 intro pins s σ H x y v u Q I c d h;obtain⟨i,j,rfl,rfl,q⟩:=h;obtain⟨t,rfl⟩:=c;obtain⟨t',rfl⟩:=d;exact notIn_str ⟨.bl _,H,I,rfl,q⟩
theorem ME:bK X (.builtin "len") (fun xs H Q=>∃p ys,xs=[.ref p]/\(cf X.K H p ys\/aV X.K H p ys)/\Q (.int ys.length) H):=by
 intro pins s σ H xs us Q I r h;obtain⟨p,ys,rfl,d,q⟩:=h;obtain⟨u,rfl,g⟩:=vals1 r;subst g;have hn:=ki
 rcases d with d|d
 ·obtain⟨its,e,f,i⟩:=I.list d;have c:=e.length;exact Calls.call_len_list f.isList (by simp only[eT]<;>omega) ⟨.int ys.length,H,I.tok _,⟨s.toks+1,by rw[eT,c]⟩,q⟩
 ·obtain⟨its,e,f,i⟩:=I.tuple d;have c:=e.length;exact len_tuple f (by simp only[eT]<;>omega) ⟨.int ys.length,H,I.tok _,⟨s.toks+1,by rw[eT,c]⟩,q⟩
theorem G4:bK X (.builtin "len") (fun xs H Q=>∃z,xs=[.str z]/\z.length<=dk/\Q (.int z.length) H):=by
 intro pins s σ H xs us Q I r h;obtain⟨z,rfl,hz,q⟩:=h;obtain⟨u,rfl,t,rfl⟩:=vals1 r;have hn:=ki;exact len_str (by lia) ⟨.int z.length,H,I.tok _,⟨_,rfl⟩,q⟩
theorem bK.or{f:bR}{r d:List V->Hp->VK->Prop}(h:bK X f r)(h':bK X f d):bK X f (fun xs H Q=>r xs H Q\/d xs H Q):=by
 intro c s e H xs us Q I rs q
 rcases q with q|q
 ·exact h c s e H xs us Q I rs q
 ·exact h' c s e H xs us Q I rs q
theorem Ll:bK X (.type "list") (fun xs H Q=>∃p ys,xs=[.ref p]/\(cf X.K H p ys\/aV X.K H p ys)/\∀l,H l=none->Q (.ref l) (upd H l (.lst ys))):=by
 intro j s x H xs us Q I r h;obtain⟨p,ys,rfl,f,q⟩:=h;obtain⟨u,rfl,y⟩:=vals1 r;subst y;have i:∀(its:List bR),aD ys its->ys.length<=dk->∀(h':nS) (c:Nat),(∀b v,s.heap.get? b=some v->h'.get? b=some v) ->
   h'.get? s.heap.objs.size=some {cls:=.type "list",dict:=none,data:=.seq its.toArray c,slots:=#[]}->EP X j x Q (.ref s.heap.objs.size) {s with heap:=h'}:=fun its d g h' c kp e =>
  ⟨.ref s.heap.objs.size,_,I.laid kp (eB _) (show cm X.prog X.w _ h' _ (.lst ys) from ⟨g,its,c,d,e⟩),rfl,q _ (I.ai.fresh (eB _))⟩
 rcases f with f|f
 ·obtain⟨its,d,k,g⟩:=I.list f;have m:=d.length;obtain⟨o,ho,t,n,hd⟩:=k.isList;exact abq p (.inl rfl) ho t hd (fun h' c kp e=>i its d g h' c kp e) (by simp only[eT]<;>omega)
 ·obtain⟨its,d,k,g⟩:=I.tuple f;have m:=d.length;obtain⟨o,ho,t,n,hd⟩:=k;exact abq p (.inr rfl) ho t hd (fun h' c kp e=>i its d g h' c kp e) (by simp only[eT]<;>omega)
theorem AG:bK X (.type "tuple") (fun xs H Q=>∃p ys,xs=[.ref p]/\((cf X.K H p ys/\∀l,H l=none->Q (.ref l) (upd H l (.tup ys)))\/(aV X.K H p ys/\Q (.ref p) H))):=by
 intro c s i H xs us Q I r h;obtain⟨p,ys,rfl,h⟩:=h;obtain⟨u,rfl,m⟩:=vals1 r;subst m
 rcases h with⟨d,q⟩|⟨d,q⟩
 ·obtain⟨its,f,g,j⟩:=I.list d;have hlen:=f.length;refine call_tuple_list g.isList (fun h' kp=>?_) (by simp only[eT]<;>omega)
  have k:=I.kept (t':=s.toks) kp
  have n:Inv X c i (upd H h'.objs.size (.tup ys)) {s with heap:=h'.push {cls:=.type "tuple",data:=.seq its.toArray} } :=
   k.laid (fun b o e=>eu _ e) (eB _) (⟨j,its,f,Zr _ _⟩)
  exact⟨.ref h'.objs.size,_,n,rfl,q _ (k.ai.fresh (eB _))⟩
 ·obtain⟨its,f,g,j⟩:=I.tuple d;exact call_tuple_same g ⟨.ref p,H,I,rfl,q⟩
def AW(K:fj)(T:String)(x:V)(H:Hp):Prop:=match x with
 | .str _=>T="str"
 | .int _=>T="int"
 | .ref p=>(T="list"/\∃xs,cf K H p xs)\/(T="tuple"/\∃o,K.lookup p=some o/\o.cls=.type "tuple"/\o.dict=none) \/
   (T="dict"/\((∃kvs,H p=some (.dK kvs))\/∃kvs,H p=some (.dT kvs)))\/(T="set"/\∃S n,H p=some (.set S n))
 | _=>False
theorem NQ{f:List (dR×wm)}{j:St}{H:Hp}{s:dr}{T:String}{x:V}{v:bR}(I:Inv X f j H s)(r:RelV x v)(ty:AW X.K T x H) :
  s.TypeIs v T/\∀a,v=.ref a->∃ob,s.heap.get? a=some ob/\ob.dict=none:=by
 cases x with
 | str z =>
  obtain⟨t,rfl⟩:=r;cases (ty)
  exact⟨typeIs_str s z t,fun _ e=>nomatch e⟩
 | int i =>
  obtain⟨t,rfl⟩:=r;cases (ty)
  exact⟨ZW s i t,fun _ e=>nomatch e⟩
 | ref p =>
  subst r
  rcases ty with⟨rfl,xs,k⟩|⟨rfl,o,d,l,hd⟩|⟨rfl,d⟩|⟨rfl,S,n,d⟩
  ·obtain⟨its,_,h,_⟩:=I.list k;refine⟨h.isList.typeIs,fun a e=>?_⟩
   cases e;obtain⟨o,n,e,c,hd,_⟩:=h;exact⟨o,e,hd⟩
  ·refine⟨⟨o,I.dZ p o d,l⟩,fun a e=>?_⟩
   cases e;exact⟨o,I.dZ _ o d,hd⟩
  ·have z:∃o,s.heap.get? p=some o/\o.ExactDict:=by
    rcases d with⟨kvs,d⟩|⟨kvs,d⟩
    ·obtain⟨_,_,_,_,o,_,_,e,ex,_⟩:=I.ai p _ d;exact⟨o,e,ex⟩
    ·obtain⟨_,_,_,_,o,_,_,e,ex,_⟩:=I.ai p _ d;exact⟨o,e,ex⟩
   obtain⟨o,e,ex⟩:=z;refine⟨⟨o,e,ex.1⟩,fun a g=>?_⟩
   cases g;exact⟨o,e,ex.2.1⟩
  ·obtain⟨o,_,_,_,e,ex,_⟩:=I.ai p _ d;refine⟨⟨o,e,ex.1⟩,fun a g=>?_⟩
   cases g;exact⟨o,e,ex.2.1⟩
 | _=>exact za ty
def rZ(K:fj)(T:String)(r:V->List V->Hp->VK->Prop)(to:TE)(t:TA):TE:=fun c H Q=>to c H fun x d=>AW K T x d/\t c d fun xs e=>r x xs e Q
variable{o e:gi}{es:List gi}{to:TE}{t:TA}{name:eA}{apos cpos:u3}{T id:String}{r:V->List V->Hp->VK->Prop}
theorem sN(p:PlainAttrs T)(slot:Slot T name id)(k:typeOf (.builtin id)=pure (.type "method_descriptor"))(hm:sZ X id r)(ho:PE X o to)(q:PA X (e::es) t)
 (f:VH o name X.env (eval o X.env)=eval o X.env:=by rfl)
 (i:((KX cpos (lq (e::es) X.env)).all (fun x=>!x.1)&&(backToKw cpos (keywordEach [] X.env)).all (fun x=>x.1.isSome)
   && decide ((e::es).length+([]:List aaj).length+(if ([]:List aaj).isEmpty then 0 else 1)<30))=true:=by rfl)
 (g:(apos.endLine==cpos.line)=true:=by rfl)(hs:bp X e es:=by rfl)(d:(KX cpos (lq es X.env)).any (·.1)=false:=by rfl) :
  PE X (.Call (.Attribute o name apos) (e::es) [] cpos) (rZ X.K T r to t):=by
 intro c s j H Q I h;refine wpAny_Call_method_late f i g rfl (aC (ho c s j H _ I h) fun v u ⟨x,w,l,m,ty,y⟩=>?_)
 obtain⟨z,A⟩:=NQ l m ty;refine⟨T,id,p,slot,k,z,A,?_⟩;have n:=q cpos c u j w _ l y;rw[hs] at n ⊢;refine Calls.callWith_builtin (by show (false||(KX cpos (lq es X.env)).any (·.1))=false;rw[d]<;>rfl) (Yw ?_)
 exact aC n fun us B ⟨vs,C,D,E,F⟩=>hm c B j C x vs v us Q D m E F
end
def Pq(X:Cx)(id:String)(r:V->List V->Hp->VK->Prop):Prop :=
 ∀(a:List (dR×wm)) (s:dr) (b:St) (H:Hp) (x:V) (xs:List V) (v:bR) (us:List bR) (Q:VK),Inv X a b H s->RelV x v->aD xs us->r x xs H Q ->
  gW (ib X.prog X.w) X.A (call (.builtin id) (v::us)) (EP X a b Q) X.xe s
theorem aD.one{x:V}{us:List bR}(h:aD [x] us):∃u,us=[u]/\RelV x u:=by
 cases h with
 | cons r t=>cases t;exact⟨_,rfl,r⟩
theorem aD.two{x y:V}{us:List bR}(h:aD [x,y] us):∃u v,us=[u,v]/\RelV x u/\RelV y v:=by
 cases h with
 | cons r t =>
  obtain⟨v,e,q⟩:=aD.one t;exact⟨_,v,by rw[e],r,q⟩
section
variable{X:Cx}{pins:List (dR×wm)}{σ:St}{H:Hp}{s:dr}{l b:dR}{xs ys zs:List V}{prog:iN}{w:nE}{A:n6}{E:bR->dr->Prop}
theorem Inv.QZ{its its':List bR}{n:Nat}{f:Array bR->Array bR}{t':Nat}(I:Inv X pins σ H s)(a:H l=some (.lst xs))
 (e:s.heap.get? l=some {cls:=.type "list",data:=.seq its.toArray n})(c:f its.toArray=its'.toArray)(d:aD ys its')(g:ys.length<=dk) :
  Inv X pins σ (upd H l (.lst ys)) {s with heap:=s.heap.update l (Vq f),toks:=t'}:=by
 have q:=PySem.IsL.update e f;rw[c] at q;refine I.write (by rw[a];exact trivial) (.inl rfl) (fun b' u h i=>(UB s.heap (Vq f) (Ne.symm h)).trans i) ⟨_,q⟩ ?_
 exact⟨g,its',_,d,q⟩
theorem Inv.ud{its:List bR}{t':Nat}(I:Inv X pins σ H s)(a:aD ys its)(c:ys.length<=dk) :
  Inv X pins σ (upd H s.heap.objs.size (.lst ys)) {s with heap:=s.heap.push {cls:=.type "list",data:=.seq its.toArray},toks:=t'} :=
 I.laid (fun _ _ q=>eu _ q) (eB _) ⟨c,its,0,a,hG _ rfl⟩
theorem Inv.fresh(I:Inv X pins σ H s):H s.heap.objs.size=none:=I.ai.fresh (eB _)
theorem Inv.NO(I:Inv X pins σ H s)(a:H l=some (.lst xs)):xs.length<=dk/\∃(its:List bR) (n:Nat),aD xs its/\xs.length=its.length/\s.heap.get? l=some {cls:=.type "list",data:=.seq its.toArray n}:=by
 obtain⟨z,its,n,r,e⟩:=I.ai l _ a;exact⟨z,its,n,r,r.length,e⟩
def zN:V->List V->Hp->VK->Prop:=fun x vs H Q=>∃l xs y,x=.ref l/\vs=[y]/\H l=some (.lst xs)/\xs.length<dk/\Q .aB (upd H l (.lst (xs++[y])))
theorem Df:Pq X "list.append" zN:=by
 intro pins s σ H x vs v us Q I c d h;obtain⟨l,xs,y,rfl,rfl,a,hz,q⟩:=h;subst c;obtain⟨u,rfl,f⟩:=d.one;obtain⟨z,its,n,r,hl,e⟩:=I.NO a;refine Xj Yu ⟨_,e,rfl⟩ F.entry_list_append (F.args_list_append_2 _ _) (PySem.list_append l its.toArray n u (by rw[eT];omega)) ⟨e,?_⟩
 refine⟨.aB,_,I.QZ a e (by simp) (r.append (.cons f .nil)) ?_,rfl,q⟩
 rw[eH,UL];omega
set_option maxRecDepth 100000 in
end
section
variable{κ:Type}[DecidableEq κ]
noncomputable def eV(kvs:List (κ×V))(k:κ):Option V:=(kvs.find? fun a=>decide (a.1=k)).map (·.2)
noncomputable def putK(kvs:List (κ×V))(k:κ)(v:V):List (κ×V) :=
 if (kvs.any fun a=>decide (a.1=k))=true then kvs.map (fun a=>if a.1=k then (a.1,v) else a) else kvs++[(k,v)]
theorem oZ{p:κ×V}{r:List (κ×V)}{k:κ}(e:p.1=k):eV (p::r) k=some p.2:=by simp[eV,U2,e]
theorem oQ{p:κ×V}{r:List (κ×V)}{k:κ}(e:¬p.1=k):eV (p::r) k=eV r k:=by simp[eV,U2,e]
theorem sY(k:κ):∀kvs:List (κ×V),(kvs.any fun a=>decide (a.1=k))=(eV kvs k).isSome
 | []=>rfl
 | p::r=>by
  simp
  by_cases e:p.1=k
  ·simp only[oZ e,decide_eq_true e,Yk,Option.isSome_some]
  ·simp only[oQ e,decide_eq_false e];exact sY k r
theorem vJ(kvs:List (κ×V))(k:κ)(v:V):(putK kvs k v).length<=kvs.length+1:=by
 delta putK;split
 ·rw[a7];lia
 ·simp only[eH,f',UE];lia
theorem jy.pM{o:Option V}{u:Option bR}(r:jy o u):o.isSome=u.isSome:=by
 cases o with
 | none=>cases u with
  | none=>rfl
  | some _=>exact (r).elim
 | some _=>cases u with
  | none=>exact (r).elim
  | some _=>rfl
theorem KV.val{kvs:List (κ×V)}{vs:List (κ×bR)}(r:KV kvs vs)(k:κ):jy (eV kvs k) (Xy vs k):=by
 induction r with
 | nil=>exact Vj
 | @cons p q ps a h t f =>
  obtain⟨d,g⟩:=h
  by_cases e:p.1=k
  ·have c:=d.symm.trans e;have b:Xy (q::a) k=some q.2:=by simp[Xy,U2,c]
   rw[oZ e,b];exact g
  ·have c:¬q.1=k:=fun z=>e (d.trans z)
   have b:Xy (q::a) k=Xy a k:=by simp[Xy,U2,c]
   rw[oQ e,b];exact f
theorem KV.any{kvs:List (κ×V)}{vs:List (κ×bR)}(r:KV kvs vs)(k:κ):(kvs.any fun a=>decide (a.1=k))=vs.any fun a=>decide (a.1=k):=by
 induction r with
 | nil=>rfl
 | cons h t b=>rw[UH,UH,b,h.1]
theorem KV.iX{kvs:List (κ×V)}{vs:List (κ×bR)}(r:KV kvs vs)(k:κ){y:V}{u:bR}(c:RelV y u) :
  KV (kvs.map fun a=>if a.1=k then (a.1,y) else a) (vs.map fun a=>if a.1=k then (a.1,u) else a):=by
 induction r with
 | nil=>exact .nil
 | @cons p q ps qs h t d =>
  simp;refine .cons ?_ d;obtain⟨b,f⟩:=h
  by_cases e:p.1=k
  ·rw[if_pos e,if_pos (b.symm.trans e)];exact⟨b,c⟩
  ·simp_all
theorem KV.put{kvs:List (κ×V)}{vs:List (κ×bR)}(r:KV kvs vs)(k:κ){y:V}{u:bR}(a:RelV y u):KV (putK kvs k y) (stored vs k u):=by
 delta putK stored;rw[r.any k]
 by_cases e:(vs.any fun b=>decide (b.1=k))=true
 ·rw[if_pos e,if_pos e];exact r.iX k a
 ·rw[if_neg e,if_neg e];exact Paired.snoc r ⟨rfl,a⟩
theorem KV.keys{kvs:List (κ×V)}{vs:List (κ×bR)}(r:KV kvs vs):kvs.map (·.1)=vs.map (·.1):=by
 induction r with
 | nil=>rfl
 | cons h t a=>rw[hY,hY,a,h.1]
theorem KV.length{kvs:List (κ×V)}{vs:List (κ×bR)}(r:KV kvs vs):kvs.length=vs.length:=Paired.length r
end
theorem nY{P:iN}{w:nE}{k:Key}{u:bR}(r:RelV (kV k) u):(cG P w).is k u=true:=by
 cases k with
 | inl i=>obtain⟨t,e⟩:=(r);subst e;exact Ql P w i t
 | inr x=>obtain⟨t,e⟩:=(r);subst e;exact M0 P w x t
theorem B'{P:iN}{w:nE}:∀{a:List Key}{us:List bR},aD (a.map kV) us->ItemsAre (cG P w) a us
 | [],_,r=>by rw[VL] at r;cases r;exact .nil
 | k::a,_,r=>by
  cases r with
  | cons h t=>exact .cons (nY h) (B' t)
abbrev KT(H:Hp):List (List Key×V)->List (List Key×dR×bR)->Prop:=Vp fun p q=>p.1=q.1/\H q.2.1=some (.tup (p.1.map kV))/\RelV p.2 q.2.2
theorem KT.val{H:Hp}{kvs:List (List Key×V)}{xs:List (List Key×dR×bR)}(r:KT H kvs xs)(k:List Key):jy (eV kvs k) ((Yo xs k).map (·.2)):=by
 induction r with
 | nil=>exact Vj
 | @cons p q ps a h t f =>
  obtain⟨d,_,g⟩:=h
  by_cases e:p.1=k
  ·have c:=d.symm.trans e;have b:Yo (q::a) k=some q.2:=by simp[Yo,U2,c]
   rw[oZ e,b];exact g
  ·have c:¬q.1=k:=fun z=>e (d.trans z)
   have b:Yo (q::a) k=Yo a k:=by simp[Yo,U2,c]
   rw[oQ e,b];exact f
theorem KT.iX{H:Hp}{kvs:List (List Key×V)}{xs:List (List Key×dR×bR)}(r:KT H kvs xs)(k:List Key){y:V}{u:bR}(d:RelV y u) :
  KT H (kvs.map fun b=>if b.1=k then (b.1,y) else b) (xs.map (putAt k u)):=by
 induction r with
 | nil=>exact .nil
 | @cons p q ps qs h t f =>
  simp;refine .cons ?_ f;obtain⟨a,c,g⟩:=h;delta putAt
  by_cases e:p.1=k
  ·rw[if_pos e,if_pos (a.symm.trans e)];exact⟨a,c,d⟩
  ·rw[if_neg e,if_neg (fun z=>e (a.trans z))];exact⟨a,c,g⟩
theorem KT.put{H:Hp}{kvs:List (List Key×V)}{xs:List (List Key×dR×bR)}(r:KT H kvs xs)(k:List Key){b:dR}{y:V}{u:bR}(c:H b=some (.tup (k.map kV)))(a:RelV y u) :
  KT H (putK kvs k y) (storedH xs k b u):=by
 have e:(kvs.any fun d=>decide (d.1=k))=(Yo xs k).isSome:=by
  rw[sY,(r.val k).pM,WU]
 delta putK storedH;rw[e]
 by_cases q:(Yo xs k).isSome=true
 ·rw[if_pos q,if_pos q];exact r.iX k a
 ·rw[if_neg q,if_neg q];exact Paired.snoc r ⟨rfl,c,a⟩
theorem KT.keeps{H a:Hp}{kvs:List (List Key×V)}{xs:List (List Key×dR×bR)}(r:KT H kvs xs)(c:∀b ys,H b=some (.tup ys)->a b=some (.tup ys)):KT a kvs xs :=
 Paired.nH r fun _ _ z=>⟨z.1,c _ _ z.2.1,z.2.2⟩
section
variable{P:iN}{w:nE}{H:Hp}{h:nS}{a:dR}{X:Cx}{pins:List (dR×wm)}{σ:St}{s:dr}{y v:V}{u r:bR}{o:Option V}{A:n6}{E:bR->dr->Prop}
theorem uY{u:HO}(ok:bP P w H h)(e:Rd H a u):cm P w H h a u:=e.ok ok
theorem kh{kvs:List (Key×V)}(ok:bP P w H h)(e:Rd H a (.dK kvs)):kvs.length<=dk/\(a==Sa)=false/\∃vs,KV kvs vs/\h.DictOf (cG P w) a vs :=
 show cm P w H h a (.dK kvs) from uY ok e
theorem Jg{kvs:List (Key×V)}(ok:bP P w H h)(e:H a=some (.dK kvs)):kvs.length<=dk/\(a==Sa)=false/\∃vs,KV kvs vs/\h.DictOf (cG P w) a vs:=kh ok (.inl e)
theorem qB{b:List Key}(ok:bP P w H h)(e:H a=some (.tup (b.map kV))):(XY (cG P w)).is h b a:=by
 obtain⟨_,its,r,o,c,d,n,f⟩:=(ok a _ e)
 exact⟨o,its.toArray,n,c,d,f,by simpa using B' r⟩
theorem pP{kvs:List (List Key×V)}(ok:bP P w H h)(e:Rd H a (.dT kvs)):kvs.length<=dk/\(a==Sa)=false /\
  ∃xs,KT H kvs xs/\h.DictOfH (XY (cG P w)) a xs:=by
 obtain⟨z,y,xs,r,o,d,ep,f,g,i,j,k⟩:=(uY ok e)
 refine⟨z,y,xs,r,o,d,ep,f,g,i,j,fun x b=>?_,k⟩
 have all:∀{l:List (List Key×V)}{m:List (List Key×dR×bR)},KT H l m->∀x∈m,(XY (cG P w)).is h x.1 x.2.1:=by
  intro l m q;induction q with
  | nil=>intro x b;exact nomatch b
  | @cons p q ps qs c t n =>
   intro x b
   rcases ey.mp b with e|b
   ·subst e;exact qB ok (by rw[<-c.1];exact c.2.1)
   ·exact n x b
 exact all r x b
theorem Iq{kvs:List (List Key×V)}(ok:bP P w H h)(e:H a=some (.dT kvs)):kvs.length<=dk/\(a==Sa)=false /\
  ∃xs,KT H kvs xs/\h.DictOfH (XY (cG P w)) a xs:=pP ok (.inl e)
def iH(H:Hp)(a:dR)(y:V)(r:Option V):Prop :=
 (∃kvs k,Rd H a (.dK kvs)/\y=kV k/\r=eV kvs k)\/∃kvs k b,Rd H a (.dT kvs)/\y=.ref b/\H b=some (.tup (k.map kV))/\r=eV kvs k
def k8(H:Hp)(a:dR)(y v:V)(c:Hp):Prop :=
 (∃kvs k,H a=some (.dK kvs)/\y=kV k/\kvs.length<dk/\c=upd H a (.dK (putK kvs k v))) \/
 ∃kvs k b,H a=some (.dT kvs)/\y=.ref b/\H b=some (.tup (k.map kV))/\kvs.length<dk/\c=upd H a (.dT (putK kvs k v))
theorem iH.k{H:Hp}{a:dR}{kvs:List (Key×V)}{k:Key}(e:H a=some (.dK kvs)):iH H a (kV k) (eV kvs k):=.inl ⟨kvs,k,.inl e,rfl,rfl⟩
theorem k8.k{H:Hp}{a:dR}{kvs:List (Key×V)}{k:Key}{v:V}(e:H a=some (.dK kvs))(hl:kvs.length<dk):k8 H a (kV k) v (upd H a (.dK (putK kvs k v))):=.inl ⟨kvs,k,e,rfl,hl,rfl⟩
theorem k8.t{H:Hp}{a b:dR}{kvs:List (List Key×V)}{k:List Key}{v:V}(e:H a=some (.dT kvs))(c:H b=some (.tup (k.map kV)))(hl:kvs.length<dk) :
  k8 H a (.ref b) v (upd H a (.dT (putK kvs k v))):=.inr ⟨kvs,k,b,e,rfl,c,hl,rfl⟩
theorem Inv.xC(I:Inv X pins σ H s):Sa<s.heap.objs.size:=by
 have h:=(I.mod.glob.keeps I.bk).lt;exact Ws (by decide) h
theorem G1{Q:bR->dr->Prop}(n:A.units+1<uz)(I:Inv X pins σ H s)(g:iH H a y (some v))(j:RelV y u)(h:∀c s',Inv X pins σ H s'->RelV v c->Q c s') :
  gW (ib X.prog X.w) A (W3 (.ref a) u) Q E s:=by
 rcases g with⟨kvs,k,e,i,l⟩|⟨kvs,k,b,e,i,q,l⟩
 ·subst i;obtain⟨z,hd,vs,d,dd⟩:=kh I.ai e;obtain⟨c,hw,f⟩:=jy.some_of (by rw[l];exact d.val k)
  exact wpAny_getItem_of (nY j) dd.mapOf hw (h c _ (I.tok _) f)
 ·subst i;cases (j)
  obtain⟨z,hd,xs,d,dd⟩:=pP I.ai e;obtain⟨c,hw,f⟩:=jy.some_of (by rw[l];exact d.val k)
  obtain⟨p,t,m⟩:=j'.mp hw;refine wpAny_getItem_heap (V9 n) (qB I.ai q) dd t ?_;simp[m];exact h c _ (I.tok _) f
theorem J4{Q:bR->dr->Prop}(i:A.units+1<uz)(I:Inv X pins σ H s)(g:iH H a y o)(f:RelV y u)(h:∀s',Inv X pins σ H s'->Q (.bool o.isSome) s') :
  gW (ib X.prog X.w) A (k7 .In u (.ref a)) Q E s:=by
 rcases g with⟨kvs,k,e,d,l⟩|⟨kvs,k,b,e,d,j,l⟩
 ·subst d;obtain⟨z,hd,vs,c,dd⟩:=kh I.ai e;refine wpAny_in_of (nY f) hd dd.mapOf ?_;rw[<-(c.val k).pM,<-l];exact h _ (I.tok _)
 ·subst d;cases (f)
  obtain⟨z,hd,xs,c,dd⟩:=pP I.ai e;refine wpAny_in_heap (V9 i) (qB I.ai j) hd dd ?_;have q:=(c.val k).pM;rw[WU] at q;simp only[<-q,<-l];exact h _ (I.tok _)
theorem LC{Q:bR->dr->Prop}(i:A.units+1<uz)(I:Inv X pins σ H s)(g:iH H a y o)(f:RelV y u)(h:∀s',Inv X pins σ H s'->Q (.bool (!o.isSome)) s') :
  gW (ib X.prog X.w) A (k7 .NotIn u (.ref a)) Q E s:=by
 rcases g with⟨kvs,k,e,d,l⟩|⟨kvs,k,b,e,d,j,l⟩
 ·subst d;obtain⟨z,hd,vs,c,dd⟩:=kh I.ai e;refine wpAny_notIn_of (nY f) hd dd.mapOf ?_;rw[<-(c.val k).pM,<-l];exact h _ (I.tok _)
 ·subst d;cases (f)
  obtain⟨z,hd,xs,c,dd⟩:=pP I.ai e;refine wpAny_notIn_heap (V9 i) (qB I.ai j) hd dd ?_;have q:=(c.val k).pM;rw[WU] at q;simp only[<-q,<-l];exact h _ (I.tok _)
theorem EC{h':nS}{t':Nat}{ob:HO}(I:Inv X pins σ H s)(d:oC (H a))(hs:VI a s.heap h')(f:∃q,h'.get? a=some q)(c:cm X.prog X.w (upd H a ob) h' a ob) :
  Inv X pins σ (upd H a ob) {s with heap:=h',toks:=t'} :=
 I.write d (.inl rfl) (fun b q g z=>(hs.2 b g).trans z) f c
theorem uD{P:iN}{w:nE}{c:Hp}{h':nS}{kvs:List (Key×V)}{vs:List (Key×bR)}(z:kvs.length<=dk)(hd:(a==Sa)=false)(b:KV kvs vs)(dd:h'.DictOf (cG P w) a vs) :
  cm P w c h' a (.dK kvs):=⟨z,hd,vs,b,dd⟩
theorem F9{p:Hp}{Q:Unit->dr->Prop}(D:A.units+1<uz)(I:Inv X pins σ H s)(g:k8 H a y v p)(t:RelV y u)(x:RelV v r)(h:∀s',Inv X pins σ p s'->Q () s') :
  gW (ib X.prog X.w) A (Zb (.ref a) u r) Q E s:=by
 rcases g with⟨kvs,k,e,j,l,m⟩|⟨kvs,k,b,e,j,B,l,m⟩
 ·subst j m;obtain⟨z,hd,vs,d,dd⟩:=Jg I.ai e;have n:vs.length<=sizeLine:=by rw[<-d.length];exact z
  have hl:(putK kvs k v).length<=sizeLine:=by have:=vJ kvs k v;lia
  refine wpAny_setItem_pairs (nY t) dd fun h' f hs=>h _ ?_
  have F:∃q,h'.get? a=some q:=let ⟨q,_,_,i,_⟩:=f;⟨q,i⟩
  exact EC I (by rw[e];exact Vj) hs F (uD hl hd (d.put k x) f)
 ·subst j m;cases (t)
  obtain⟨z,hd,xs,d,dd⟩:=Iq I.ai e;have n:xs.length<=sizeLine:=by rw[<-Paired.length d];exact z
  have hl:(putK kvs k v).length<=sizeLine:=by have:=vJ kvs k v;lia
  refine wpAny_setItem_heap (V9 D) (qB I.ai B) dd fun h' f hs=>h _ ?_
  obtain⟨q,G,ep,i,J,K,L,_,M⟩:=f;refine EC I (by rw[e];exact Vj) hs ⟨q,i⟩ ⟨hl,hd,_,(d.put k B x).keeps fun c ys C=>?_,q,G,ep,i,J,K,L,M⟩
  rw[aw (Jw C e (fun z=>nomatch z))]
  exact C
end
section
variable{X:Cx}{pins:List (dR×wm)}{σ:St}{H:Hp}{s:dr}{a:dR}{kvs:List (Key×V)}{k:Key}{u:bR}{A:n6}{E:bR->dr->Prop}
theorem QT{Q:bR->dr->Prop}(I:Inv X pins σ H s)(e:Rd H a (.dK kvs))(h:∀t s',Inv X pins σ H s'->Q (.int kvs.length t) s'):gW (ib X.prog X.w) A (call (.builtin "len") [.ref a]) Q E s:=by
 obtain⟨z,hd,vs,b,dd⟩:=kh I.ai e;refine call_len_dict hd dd (by rw[<-b.length];rw[zd] at z;omega) ?_
 rw[<-b.length];exact h _ _ (I.tok _)
end
def CV(i:gi):Prop:=∀a b,X4 i false a b=operate [a,b] (W3 a b)
theorem JO{prog:iN}{w:nE}{A:n6}{E:bR->dr->Prop}{s:dr}{env:Xo}{value slice:gi}{pos:u3}{T id:String}{Q:bR->dr->Prop}
 (hl:V8 (.type T) "__getitem__"=pure (some (.builtin id)))(hs:CV slice)
 (h:gW (ib prog w) A (eval value env) (fun o c=>gW (ib prog w) A (eval slice env) (fun i a=>a.TypeIs o T/\gW (ib prog w) A (W3 o i) Q E a) E c) E s) :
  gW (ib prog w) A (eval (.Subscript value slice pos) env) Q E s:=by
 refine Yz (u2 h (fun o c f=>u2 f (fun i a b=>?_) fun _ _ x=>x) fun _ _ x=>x)
 obtain⟨j,b⟩:=b;refine cn ?_;refine cn (wpAny_specialOf j hl ?_);have d:gW (ib prog w) A (X4 slice false o i) (fun r e=>gW (ib prog w) A (letTemporaryGo value o r >>= fun _=>pure r) Q E e) E a:=by
  rw[hs o i];exact wpAny_operating (u2 b (fun r e g=>cn (wpAny_letTemporaryGo (eK g))) fun _ _ x=>x)
 first
  | exact eK (cn d)
  | exact cn (eK (cn d))
  | exact cn d
theorem GU{X:Cx}{c:List (dR×wm)}{d:St}{H:Hp}{s:dr}{a:dR}{y:V}{o:Option V}(I:Inv X c d H s)(g:iH H a y o):s.TypeIs (.ref a) "dict":=by
 rcases g with⟨kvs,k,e,_,_⟩|⟨kvs,k,b,e,_,_,_⟩
 ·obtain⟨_,_,vs,_,dd⟩:=kh I.ai e;exact dd.typeIs
 ·obtain⟨_,_,xs,_,dd⟩:=pP I.ai e;exact dd.typeIs
def HE(d ty:TE):TE:=fun b H Q=>d b H fun x e=>ty b e fun y c=>∃a v,x=.ref a/\iH c a y (some v)/\Q v c
def KZ(d ty e:TE):TS:=fun D b H=>e b H fun v f=>d b f fun x g=>ty b g fun y h=>∃a c,x=.ref a/\k8 h a y v c/\D.nx b c
section
variable{X:Cx}{o i e value:gi}{pos pos' tpos:u3}{td ty tv:TE}{pins:List (dR×wm)}{σ:St}{H:Hp}{s:dr}{a:dR}{kvs:List (Key×V)}{A:n6}{E:bR->dr->Prop}
theorem uf(d:X.A.units+1<uz)(ho:PE X o td)(f:PE X i ty)(hs:CV i):PE X (.Subscript o i pos) (HE td ty):=by
 intro pins s σ H Q I h;refine JO PySem.F.slot_dict_getitem.lookup hs (aC (ho pins s σ H _ I h) fun u j ⟨x,k,l,m,n⟩=>aC (f pins j σ k _ l n) fun iv s2 ⟨y,p,b,q,a,v,ex,g,r⟩=>?_)
 subst ex;obtain rfl:u=uy a:=m;exact⟨GU b g,G1 d b g q fun w' s3 t c=>⟨v,p,t,c,r⟩⟩
theorem An(b:X.A.units+1<uz)(ho:PE X o td)(c:PE X i ty)(d:PE X value tv)(hs:xn value (some (.Subscript o i pos')) pos.line X.env=pure false) :
  PS X (.Assign [.Subscript o i pos'] value pos) (KZ td ty tv):=by
 intro pins s σ H D I h;refine wpAny_Assign_Subscript (aC (d pins s σ H _ I h) fun r f ⟨v,j,k,l,m⟩=>aC (ho pins f σ j _ k m) fun u n ⟨x,p,q,t,w⟩=>aC (c pins n σ p _ q w) fun iv s3 ⟨y,H3,z,B,a,C,ex,g,F⟩=>?_) hs
 subst ex;obtain rfl:u=uy a:=t;exact F9 b z g B l fun s4 G=>⟨σ,C,G,F⟩
theorem QP{P:iN}{w:nE}{H:Hp}(h:nS)(b:Sa<h.objs.size):cm P w H (h.push {cls:=.type "dict",data:=.dict #[]}) h.objs.size (.dT []) :=
 ⟨ro _,beq_eq_false_iff_ne.mpr (Ne.symm (gs b)),[],.nil,_,#[],0,hG _ rfl,⟨rfl,rfl,rfl⟩,rfl,rfl,z8⟩
def Rk:TE:=fun _ H Q=>∀p,H p=none->Q (.ref p) (upd H p (.dT []))
theorem Mf:PE X (.Dict [] [] pos) Rk:=fun pins s σ H Q I h =>
 wpAny_Dict_empty ⟨.ref s.heap.objs.size,_,I.laid (fun _ _ q=>eu _ q) (eB _) (QP s.heap I.xC),rfl,h _ (I.ai.fresh (eB _))⟩
def kR(kvs more:List (Key×V)):List (Key×V):=more.foldl (fun b c=>putK b c.1 c.2) kvs
theorem KV.merge:∀{more:List (Key×V)}{rs:List (Key×bR)}{kvs:List (Key×V)}{vs:List (Key×bR)},KV more rs->KV kvs vs->KV (kR kvs more) (Zf vs rs):=by
 intro more rs kvs vs r;induction r generalizing kvs vs with
 | nil=>intro q;exact q
 | @cons p q ps qs h t b =>
  intro c;have e:KV (putK kvs p.1 p.2) (stored vs q.1 q.2):=by
   have:=c.put p.1 h.2;rw[<-h.1];exact this
  exact b e
theorem yx:∀(more kvs:List (Key×V)),(kR kvs more).length<=kvs.length+more.length
 | [],kvs=>by show kvs.length<=kvs.length+0;omega
 | p::r,kvs=>by
  have h1:=yx r (putK kvs p.1 p.2);have h2:=vJ kvs p.1 p.2;show (kR (putK kvs p.1 p.2) r).length<=_;simp;lia
theorem Fj{Q:bR->dr->Prop}(I:Inv X pins σ H s)(e:Rd H a (.dK kvs))(h:∀p s',H p=none->Inv X pins σ (upd H p (.dK kvs)) s'->Q (.ref p) s'):gW (ib X.prog X.w) A (call (.type "dict") [.ref a]) Q E s:=by
 obtain⟨z,hd,vs,c,dd⟩:=kh I.ai e;refine kt_call_dict hd dd (by rw[<-c.length];exact z) fun h' d hs=>?_
 refine h _ _ (I.ai.fresh (eB _)) (I.laid (fun b q f=>?_) (eB _) (uD z (beq_eq_false_iff_ne.mpr (Ne.symm (gs I.xC))) c d))
 exact (hs.2 b (gs (eS f))).trans (eu _ f)
end
section
open PySem.W PySem.Calls
theorem MR{P:Params}{h:nS}:∀(c:List Int) (vs:List bR),WellAll P h vs (c.map aaR)->aap vs c:=by
 intro c;induction c with
 | nil =>
  intro vs w;cases w;exact .nil
 | cons n c d =>
  intro vs w;cases w with
  | cons a b =>
   cases a;exact .cons _ _ (d _ b)
theorem OJ{l:Zv}{n:Nat}(o:l.most=some n){P:Params}{h:nS}{args:List WData}{c:List bR}
 (e:l.row.toRowW.claim.pre args=true)(k:WellAll P h c args) :
  ∃a vs b,c=[uy a]/\args=[WData.list (b.map aaR)]/\h.get? a=some {cls:=.type "list",data:=.seq vs.toArray}/\aap vs b/\b.length<=n:=by
 have kU:=(pre_splitW e).1;have m:=(pre_splitW e).2;obtain⟨d,r,rfl,p,s⟩:=hasAllW_cons kU;obtain rfl:=hasAllW_nil s;obtain⟨xs,rfl,t⟩:=hasW_list p;obtain⟨b,rfl⟩:=items_int t;have i:b.length<=n:=by
  have f:(WTm.not (.lt (.lit (.int (n:Int))) (.len (.arg 0)))).holds [] {args:=[.list (b.map .int)]}=true:=by
   have f:=(holds_andW m).1;rw[o] at f;exact f
  have g:=condW_of f (w_not (w_lt w_lit (w_len_list (w_arg rfl))));refine ZK fun q=>?_
  first
   | (rw[decide_eq_true u] at g;exact absurd g rfl)
   | (simp at g;omega)
 cases k with
 | cons v w =>
  cases w;cases v with
  | list ho j=>exact⟨_,_,b,rfl,rfl,ho,MR b _ j,i⟩
theorem QX(l:Zv)(args:List WData):l.row.toRowW.claim.post args (.bool true) args=true :=
 postW_of
  (show WShape.has [] (.bool true) .bool=true by first|rfl|decide|simp[WShape.has,WShape.arms,WShape.armsAll])
  (w_eq_bool (w_res rfl) w_lit) rfl
end
theorem zy:∀{vs:List bR}{a:List Int},aap vs a->aD (a.map V.int) vs
 | _,_,.nil=>.nil
 | _,_,.cons n t h=>.cons ⟨t,rfl⟩ (zy h)
def zj(H:Hp):Prop:=∀b,H b=none\/∃o xs,H b=some (.a9 o (.lst xs))
theorem J'{P:iN}{w:nE}{K:fj}{mg D:eA->Option bR}{CX:ij}{k:Nat}{fa a:dR}{M:hQ}{x:eA}{sp:Sp}{c:dr}{vs:List bR}{j:List Int}
 (N:K.In c.heap)(B:c.heap.Ns hE mg)(f:c.heap.Ns Z5 D)(O:∀x:eA,x≠"__name__"->D x=Hz x)(E:c.heap.NoLimit)(hg:c.gens=#[])
 (y:c.heap.get? a=some {cls:=.type "list",data:=.seq vs.toArray})(Q:aap vs j)(hl:j.length<=dk)(hr:Room k Zh)
 (F:∀base:nS,K.In base->base.Ns hE mg->aO P w K mg base CX k fa M [x] sp)(A:∀(s:dr) (u:bR),Zo s M ⟨[u],[]⟩ [(x,u)])
 (R:∀H:Hp,zj H->cf K H a (j.map V.int)->sp [.ref a] H (fun v _=>v=.bl true) fun _ _ _=>False)
 (S:∀H e s',CX [] H c (fun _ _ _=>False) e s'->False) :
  Wj (ib P w) Zh (.call (.ref fa) ⟨[.ref a],[]⟩) (fun r s'=>r=.ok (.ret (.bool true))/\OldK c.heap s'.heap/\s'.os=c.os/\WK s'.gens) c:=by
 have T:=zy Q;have G:=Q.length;have l:∀H:Hp,zj H->cf K H a (j.map V.int)->bP P w H c.heap->(∀b,H b≠none->b=a)->(H a≠none->K.lookup a=none) ->
   Wj (ib P w) Zh (.call (.ref fa) ⟨[.ref a],[]⟩) (fun r s'=>r=.ok (.ret (.bool true))/\OldK c.heap s'.heap/\s'.os=c.os/\WK s'.gens) c:=by
  intro H U hS ai X hK;have g:∀{b:dR}{o:wm},c.heap.get? b=some o->H b=none->(kf c.heap H).get? b=some o:=fun e n=>Mq e n
  have Y:∀{b:dR}{o:wm}{p:Array VC}{ep:Nat},c.heap.get? b=some o->o.data=.dict p ep->H b=none:=fun {b o p ep} e d=>by
   cases q:H b with
   | none=>rfl
   | some u =>
    have I:=X b (by rw[q];simp)
    subst I;rw[y] at e;obtain rfl:=sO e;contradiction
  have i:∀{b:dR}{m:eA->Option bR},c.heap.Ns b m->(kf c.heap H).Ns b m:=fun {b m} ⟨o,p,ep,e,d,r⟩=>⟨o,p,ep,g e (Y e d),d,r⟩
  have C:K.In (kf c.heap H):=fun b o e=>g (N b o e) (by
   cases q:H b with
   | none=>rfl
   | some u =>
    have I:=X b (by rw[q];simp)
    subst I;rw[hK (by rw[q];simp)] at e;exact nO e)
  have hM:Mod K mg (kf c.heap H):=⟨C,i B,⟨D,i f,O⟩,let ⟨mc,h1,h2⟩:=E;⟨mc,i h1,h2⟩⟩
  have e0:rh P w K mg (kf c.heap H) Zh [] c H:=⟨rfl,hM,fun b o e=>Qh e,aaO (Pb _ _),trivial,fun b f=>absurd (show b∈([]:List dR) from f) (by simp),ai,.of_eq hg⟩
  refine Vo ((F _ C (i B)).run Zh [] c H ⟨[.ref a],[]⟩ [.ref a] [.ref a] _ _ hr e0 (A c (.ref a)) (.cons rfl .nil) (R H U hS)) fun r s' h=>?_
  cases r with
  | error e=>exact (S H e s' h).elim
  | ok fl =>
   cases fl with
   | next=>exact za h
   | brk=>exact za h
   | cont=>exact za h
   | ret u =>
    obtain⟨v,H',os,bare,un,J,r',q⟩:=h;have q':=q;subst q';obtain rfl:u=xr true:=r';refine⟨rfl,OldK.of_keep fun b o e=>?_,os,bare⟩
    cases q:H b with
    | none=>exact un.keep b o e q (by intro z;exact absurd (show b∈([]:List dR) from z) (by simp)) (by simp)
    | some u =>
     rcases U b with z|⟨ob,xs,z⟩
     ·rw[q] at z;contradiction
     ·have z2:=un.gB b ob _ z;obtain⟨Z,_⟩:=ai b _ z;obtain⟨e2,_⟩:=J b _ z2;rw[e] at Z;obtain rfl:=sO Z;exact e2
 cases L:K.lookup a with
 | some o =>
  have e:=N a o L;rw[y] at e;obtain rfl:=sO e;refine l (fun _=>none) (fun _=>.inl rfl) (.inr ⟨_,vs.toArray,_,L,rfl,rfl,rfl,by rw[eT,G];exact hl,by simpa using T⟩) (fun b u z=>by have t:(none:Option HO)=some u:=z;exact nO t) (fun b z=>absurd rfl z) fun z=>absurd rfl z
 | none =>
  refine l (fun b=>if b=a then some (.a9 {cls:=.type "list",data:=.seq vs.toArray} (.lst (j.map V.int))) else none) (fun b=>?_) (.inl (.inr ⟨{cls:=.type "list",data:=.seq vs.toArray},if_pos rfl⟩)) (fun b u z=>?_) (fun b z=>?_) fun _=>L
  ·by_cases f:b=a
   ·exact .inr ⟨_,_,if_pos f⟩
   ·exact .inl (if_neg f)
  ·by_cases f:b=a
   ·have t:=(if_pos f).symm.trans z;obtain rfl:=sO t;subst f;exact⟨y,by rw[a7];exact hl,vs,_,T,y⟩
   ·have t:=(if_neg f).symm.trans z;exact nO t
  ·by_cases f:b=a
   ·exact f
   ·exact absurd (if_neg f) z
noncomputable def l7(s:Uz):Arguments:=match s with
 | .FunctionDef _ a _ _ _ _ _ _ _ _=>a
 | _=>{posonlyargs:=[],args:=[],vararg:=none,kwonlyargs:=[],kw_defaults:=[],kwarg:=none,defaults:=[]}
noncomputable def fZ(s:Uz):List Stmt:=match s with
 | .FunctionDef _ _ b _ _ _ _ _ _ _=>b
 | _=>[]
noncomputable def aJ(s:Uz):Scope:=match s with
 | .FunctionDef _ _ _ _ _ _ a _ _ _=>a
 | _=>{kind:=.function,names:=[],isGenerator:=false,isCoroutine:=false}
abbrev bh:ij:=fun _ _ _ _ _ _=>False
abbrev E0:XK:=fun _ _ _=>False
theorem NI{X:Cx}:pK bh X E0:=fun _ _ _ _ _ _ _ h=>h.elim
structure bf (K:fj) (x qual:eA) (st:Uz) (f:dR) (fd:hQ):Prop where
 ex:∃(oc:bR) (od:Option dR) (kV doc pm:bR) (an:Option dR) (cdv ct:bR) (osl:Array (Option bR)),
  fd=W' x qual (l7 st) (fZ st) (aJ st) .none kV doc pm an cdv ct/\K.lookup f=some ⟨oc,od,.func fd,osl⟩/\aaC K cdv qual=true
 kp:VA K (.ref f)=true
section
variable{P:iN}{w:nE}{K:fj}{mg:eA->Option bR}{base:nS}{X:Cx}{Ar:n6}{pins:List (dR×wm)}{σ:St}{H:Hp}{s:dr}{NB:List eA}{scope:Ux}{s₂:dr}{E:bR->dr->Prop}
theorem bf.ok{x a:eA}{st:Uz}{f:dR}{e:hQ}{N d:List eA}{k:Nat}{sp:Sp}(F:bf K x a st f e)(S:bw N d (aJ st))(len:∀vs H Q E,sp vs H Q E->vs.length=d.length)
 (c:∀(b:bR) (A:n6) (outer:List Xo) (s:dr) (H:Hp) (vs:List V) (Q:VK) (E:XK),Room k (A.deeper (Vu a (aJ st) s.heap.objs.size f b))->sp vs H Q E ->
   ∃t,fA (dA bh P w K mg base N a (aJ st) f b A outer s H E).gY (fZ st) t/\t {nx:=fun _ j=>Q .aB j,rt:=Q} (start N vs) H):aO P w K mg base bh (k+1) f e d sp:=by
 obtain⟨oc,od,kV,doc,pm,an,b,ct,osl,rfl,lk,g⟩:=F.ex;refine BN lk g S len fun A outer s H vs Q E l i=>?_
 obtain⟨t,h,q⟩:=c b A outer s H vs Q E l i;exact⟨t,h.gY,q⟩
theorem bf.binds{x a:eA}{st:Uz}{f:dR}{g:hQ}{d:List eA}(F:bf K x a st f g)
 (h:∀(kV b pm:bR) (e:Option dR) (c ct:bR) (us:List bR),us.length=d.length->Yn (W' x a (l7 st) (fZ st) (aJ st) .none kV b pm e c ct) ⟨us,[]⟩=pure (d.zip us)):Binds K g d []:=by
 obtain⟨oc,od,kV,b,pm,e,c,ct,osl,rfl,lk,hcd⟩:=F.ex;exact .all (h kV b pm e c ct)
theorem GO{x a:eA}{st:Uz}{f:dR}{h:bR}{i g:Option dR}{e:Array (Option bR)}{kV d pm b ct:bR}(l:K.lookup f=some ⟨h,i,.func (W' x a (l7 st) (fZ st) (aJ st) .none kV d pm g b ct),e⟩)
 (c:aaC K b a=true)(k:VA K (.ref f)=true):bf K x a st f (W' x a (l7 st) (fZ st) (aJ st) .none kV d pm g b ct):=⟨⟨h,i,kV,d,pm,g,b,ct,e,rfl,l,c⟩,k⟩
theorem pv(i:Nat){x:eA}{pos:u3}(b:X.N[i]?=some x:=by rfl)(c:cc X.env.scope x:=by first|exact Xr rfl|exact Xq (Xr rfl)|exact Xq (Xq rfl))(hd:bb x:=by decide)
 (a:cH x:=by decide):PE X (.Name x pos) (tG i):=fg b c hd a
def ag(H a:Hp):Prop:=∀b o,H b=some o->a b=some o
theorem ag.refl(H:Hp):ag H H:=fun _ _ h=>h
theorem ag.trans{H d e:Hp}(a:ag H d)(b:ag d e):ag H e:=fun c o h=>b c o (a c o h)
noncomputable abbrev y9(ifs:List gi)(env:Xo):Sem Bool:=forIn ifs true fun t ok =>
 if ok=true then (Ym t env (eval t env)) >>= fun b=>pure (.yield b)
 else pure (.yield ok)
abbrev mK:bR->dr->Prop:=fun _ _=>False
theorem NJ{elt e f:gi}{ifs:List gi}{i:Ux}{j:u3}{b a:bR}{env:Xo}{k:Yq->dr->Prop}{l:dr}(W:Nat->dr->Prop)
 (turn:∀n c,W n c->gW (ib P w) Ar (WI b) (fun d g=>match d with
   | none=>k (.ok .next) g
   | some u=>gW (ib P w) Ar (WN e b u)
     (fun _ o=>gW (ib P w) Ar (Vg e env u)
      (fun _ p=>gW (ib P w) Ar (y9 ifs env)
       (fun ok h=>if ok=true then gW (ib P w) Ar (eval elt env)
         (fun y q=>gW (ib P w) Ar (call (.builtin "list.append") [a,y]) (fun _ r=>∃m,m<n/\W m r) mK q) mK h
        else ∃m,m<n/\W m h) mK p) mK o) mK g) mK c)
 (t:Nat)(B:W t l):Wj (ib P w) Ar (.compLoop (.ListComp elt [⟨e,f,ifs,0⟩] i j) 0 b a env) k l:=by
 refine codeAny_loop rfl W (fun n c hw=>?_) t B
 refine wpAny_noted ?_;rw[compTurn_list];refine cn (Xe (cn (u2 (turn n c hw) (fun d g v=>?_) fun _ _ z=>z.elim)))
 cases d with
 | none=>exact eK v
 | some u =>
  refine cn (u2 v (fun _ o C=>?_) fun _ _ z=>z.elim)
  refine cn (u2 C (fun _ p D=>?_) fun _ _ z=>z.elim)
  refine cn (u2 D (fun ok h A=>?_) fun _ _ z=>z.elim)
  cases ok with
  | false=>exact eK (abz rfl A)
  | true =>
   refine cn (cn (u2 A (fun y q F=>?_) fun _ _ z=>z.elim))
   refine cn (u2 F (fun _ r G=>?_) fun _ _ z=>z.elim)
   exact eK (eK (abz rfl G))
theorem vn(env:Xo):∀(names:List (eA×W0)) (cs:List (eA×dR)),(∀y∈names,y.2=.free->∃c,env.cells.lookup y.1=some c) ->
  (∀x c,cs.lookup x=some c->env.cells.lookup x=some c) ->
  ∃cl:List (eA×dR),(forIn names cs (fun (x:eA×W0) (r:List (eA×dR))=>if (x.2==H9)=true then (do let a <-cellOf env x.1;pure (YK ((x.1,a)::r))) else pure (YK r)):Sem (List (eA×dR)))=pure cl /\
   (∀x c,cl.lookup x=some c->env.cells.lookup x=some c)/\(∀x,(cs.lookup x).isSome=true->(cl.lookup x).isSome=true)/\∀y∈names,y.2=.free->(cl.lookup y.1).isSome=true
 | [],cs,_,f=>⟨cs,by simp,f,fun _ h=>h,fun _ h=>by simp at h⟩
 | (n,k)::r,cs,t,f=>by
  have u:∀y∈r,y.2=.free->∃c,env.cells.lookup y.1=some c:=fun y b=>t y (fm _ b)
  by_cases m:k=.free
  ·subst m;obtain⟨c,v⟩:=t (n,.free) fv rfl;have z:∀x g,((n,c)::cs).lookup x=some g->env.cells.lookup x=some g:=fun x g e=>by
    rw[z6] at e;cases d:x==n with
    | true =>
     rw[d] at e;have:x=n:=by simpa using d
     subst this;simp only[v,e]
    | false =>
     rw[d] at e;exact f x g e
   obtain⟨cl,o,p,i,q⟩:=vn env r ((n,c)::cs) u z;refine⟨cl,?_,p,fun x d=>i x ?_,fun y b j=>?_⟩
   ·rw[Wt];have l:cellOf env n=pure c:=by unfold cellOf;rw[v]
    simp only[if_true,l];exact o
   ·rw[z6];cases x==n<;>simp[d]
   ·rcases ey.mp b with rfl|b
    ·exact i _ (by simp[z6])
    ·exact q y b j
  ·obtain⟨cl,o,p,i,q⟩:=vn env r cs u f;refine⟨cl,?_,p,i,fun y b j=>?_⟩
   ·rw[Wt];have:(k==H9)=false:=by simpa using m
    simp only[this,qh];exact o
   ·rcases ey.mp b with rfl|b
    ·exact absurd j m
    ·exact q y b j
theorem yX{scope:Ux}{env:Xo}(h:∀y∈scope.names,y.2=.free->∃c,env.cells.lookup y.1=some c) :
  ∃cl,closureFor scope env=pure cl/\(∀x c,cl.lookup x=some c->env.cells.lookup x=some c)/\∀y∈scope.names,y.2=.free->(cl.lookup y.1).isSome=true:=by
 obtain⟨cl,a,b,_,d⟩:=vn env scope.names [] h (fun _ _ e=>by simp at e)
 refine⟨cl,?_,b,d⟩;dsimp only[closureFor];simp only[<-a];simp only[bind_pure]
theorem qv{a c:Type}[BEq a][LawfulBEq a]:∀{l:List (a×c)}{x:a}{k:c},l.lookup x=some k->(x,k)∈l
 | [],_,_,h=>by simp at h
 | (n,k')::r,x,k,h=>by
  rw[z6] at h;cases b:x==n with
  | true =>
   rw[b] at h;have:x=n:=by simpa using b
   subst this;simp at h;subst h;exact fv
  | false =>
   rw[b] at h;exact fm _ (qv h)
theorem xj(env:Xo):∀(names:List (eA×W0)) (x:eA),
  (names.map fun (n,k)=>if (k==H9&&env.scope.kind==.function&&env.kindOf n==some .cell) then (n,Zl) else (n,k)).lookup x =
   (names.lookup x).map fun k=>if (k==H9&&env.scope.kind==.function&&env.kindOf x==some .cell) then Zl else k
 | [],_=>rfl
 | (n,k)::r,x=>by
  rw[hY];cases b:x==n with
  | true =>
   have e:x=n:=by simpa using b
   subst e
   by_cases a:(k==H9&&env.scope.kind==.function&&env.kindOf x==some .cell)=true
   ·simp only[a,if_true,z6,beq_self_eq_true,ti]
   ·simp only[a,if_false,z6,beq_self_eq_true,ti,qh]
  | false =>
   have c:=xj env r x
   by_cases a:(k==H9&&env.scope.kind==.function&&env.kindOf n==some .cell)=true
   ·simp only[a,if_true,z6,b];exact c
   ·simp only[a,if_false,z6,b,qh];exact c
theorem Im{scope:Ux}{env:Xo}{x:eA}(h:scope.names.lookup x=some .free):(XB scope env).names.lookup x=some .cell\/(XB scope env).names.lookup x=some .free:=by
 delta XB;simp only[xj,h];simp only[ti];split
 ·exact .inl rfl
 ·exact .inr rfl
theorem QV{scope:Ux}{env:Xo}{x:eA}(c:∀y∈scope.names,y.2≠.cell)(h:(XB scope env).names.lookup x=some .cell\/(XB scope env).names.lookup x=some .free):scope.names.lookup x=some .free:=by
 delta XB at h;rw[xj] at h;cases e:scope.names.lookup x with
 | none=>simp only[e] at h;simp at h
 | some k =>
  simp only[e] at h;have hm:=c _ (qv e);simp only[ti] at h
  by_cases a:(k==H9)=true
  ·rw[show k=H9 by simpa using a]
  ·grind
def bV(X:Cx)(NB:List eA)(scope:Ux)(cl:List (eA×dR))(C:dR)(a:dr)(H:Hp)(b:List dR):Cx :=
 {X with N:=NB,cE:=a,pZ:=H,env:=compEnvC scope cl C X.env,outer:=X.stack,ex:=b,fn:=fun _=>false,pn:=[],xe:=fun _ _=>False}
noncomputable def eJ(caps:List (Option Nat))(σ:St):St:=caps.map fun o=>o.bind fun j=>(σ[j]?).join
noncomputable def gv(N NB:List eA)(a:Ux)(caps:List (Option Nat)):Bool :=
 caps.length==NB.length&&(ka caps.length).all fun i=>match caps[i]? with
  | some (some j)=>(match NB[i]?,N[j]? with|some x,some y=>x==y&&a.names.lookup x==some .free|_,_=>false)
  | _=>true
theorem Qm{N NB:List eA}{a:Ux}{σ:St}{caps:List (Option Nat)}(h:gv N NB a caps=true):(eJ caps σ).length=NB.length:=by
 delta gv at h;rw[ee] at h;simp[eJ];simpa using h.1
theorem Qv{N NB:List eA}{c:Ux}{σ:St}{caps:List (Option Nat)}{i:Nat}{x:eA}{v:V}(h:gv N NB c caps=true)(g:NB[i]?=some x)(a:(eJ caps σ)[i]?=some (some v)) :
  c.names.lookup x=some .free/\∃j:Nat,N[j]?=some x/\σ[j]?=some (some v)/\caps[i]?=some (some j):=by
 delta gv at h;rw[ee] at h;delta eJ at a;rw[eo] at a;cases e:caps[i]? with
 | none=>rw[e] at a;exact nO a
 | some o =>
  rw[e] at a;cases o with
  | none=>cases a
  | some j =>
   have d:=(bt.mp e).1;have q:=ia.mp h.2 i (Vc.mpr d);rw[e] at q;dsimp only at q;rw[g] at q;cases b:N[j]? with
   | none=>rw[b] at q;contradiction
   | some y =>
    rw[b] at q;simp only[ee] at q;have k:x=y:=by simpa using q.1
    subst k;refine⟨by simpa using q.2,j,b,?_,rfl⟩
    simp at a;cases f:σ[j]? with
    | none=>rw[f] at a;exact nO a
    | some z =>
     rw[f] at a;have a:z=some v:=a;rw[a]
structure i9 (sc:Ux) (scope:Ux):Prop where
 kind:scope.kind=.function
 DH:∀y∈scope.names,y.2≠.cell
 loc:∀y∈scope.names,y.2=.local->scope.names.lookup y.1=some .local
 free:∀y∈scope.names,y.2=.free->sc.names.lookup y.1=some .cell\/sc.names.lookup y.1=some .free
theorem PK{caps:List (Option Nat)}(I:Inv X pins σ H s)(S:i9 X.env.scope scope)(f:gv X.N NB scope caps=true){cl:List (eA×dR)}{M:List dR}{d:nS}{tk:Nat}
 (a:∀x c,cl.lookup x=some c->X.env.cells.lookup x=some c)(t:∀y∈scope.names,y.2=.free->(cl.lookup y.1).isSome=true)
 (O:d.Ns s.heap.objs.size fun _=>none)(keep:∀b o,s.heap.get? b=some o->d.get? b=some o)(g:∀b∈M,iq X pins H b/\b<s.heap.objs.size) :
  Inv (bV X NB scope cl s.heap.objs.size s H M) [] (eJ caps σ) H {s with heap:=d,toks:=tk}:=by
 have hC:X.env.locals<s.heap.objs.size:=I.lt;refine⟨⟨I.ok.mod,?_,I.ok.glob,I.ok.blt,eB _,fun x y c B C=>?_,fun x U=>?_,fun x c h=>?_,I.ok.hd,I.ok.frames,.inl rfl,fun b n=>?_,fun b o e=>?_,sq I.ok.iS I.sz,fun b o e n=>?_,fun b n hm=>?_,I.stack,I.wo⟩,
  rfl,I.bare,Un.kept keep,⟨_,O,fun i x v B C h3=>?_⟩,fun x c h=>?_,I.ai.fresh (eB _),fun x c h=>?_,fun p V=>absurd (show p∈([]:List (dR×wm)) from V) (by simp),I.ai.kept keep,Qm f⟩
 ·exact S.kind
 ·exact I.ok.inj x y c (a x c B) (a y c C)
 ·have q:=QV S.DH U;exact LK.mp (t _ (qv q) rfl)
 ·exact absurd h (by show ¬(false=true);simp)
 ·obtain⟨⟨Q,D,F,G,J,R⟩,lt⟩:=g b n;exact⟨gs lt,fun x c e=>J x c (a x c e)⟩
 ·exact I.bs b o e
 ·obtain⟨⟨Q,D,F,G,J,R⟩,lt⟩:=g b n
  rcases G with z|z
  ·exact I.ok.kG b o e z
  ·exact absurd (hI (hI (eS e) I.ok.iS) z) (wa _)
 ·obtain⟨⟨Q,D,F,G,J,R⟩,lt⟩:=g b n
  rcases ey.mp (I.pY b hm) with z|z
  ·exact D z
  ·exact F z
 ·obtain⟨q,j,W,Y,_⟩:=Qv f B C;obtain⟨m,hn,hl⟩:=I.loc;have L:=S.free _ (qv q) rfl;have Z:cc X.env.scope x:=.inr L;obtain⟨u,r,l⟩:=hl j x v W Y Z;refine⟨u,r,.inr ⟨Im q,?_⟩⟩;obtain⟨c,T⟩:=LK.mp (t _ (qv q) rfl);refine⟨c,T,?_⟩
  rcases l with⟨k,_⟩|⟨_,c',A,z⟩
  ·have k:X.env.scope.names.lookup x=some .local:=k;rw[k] at L
   rcases L with z|z<;>contradiction
  ·rw[a x c T] at A;obtain rfl:=sO A;obtain⟨o,ho,hd⟩:=z;exact⟨o,keep c o ho,hd⟩
 ·obtain⟨v,o,ho,hd⟩:=I.cell x c (a x c h);exact⟨v,o,keep c o ho,hd⟩
 ·exact I.d9 x c (a x c h)
def PF(X:Cx)(ifs:List gi)(t:TT):Prop :=
 ∀(pins:List (dR×wm)) (s:dr) (σ:St) (H:Hp) (Q:Bool->Hp->Prop),Inv X pins σ H s->t σ H Q ->
  gW (ib X.prog X.w) X.A (y9 ifs X.env) (TP X pins σ Q) X.xe s
def NW:TT:=fun _ H Q=>Q true H
theorem GW{X:Cx}:PF X [] NW:=fun _ _ _ H _ I h=>wpAny_tests_nil ⟨H,I,h⟩
theorem Qr{X:Cx}{c:gi}{t:TT}(h:PT X c t):PF X [c] t:=fun pins s σ H Q I a=>wpAny_tests_one (h pins s σ H Q I a)
def rq(caps:St->St)(l:TI)(g:TG)(tc:TT)(te:TE):TE:=fun σ H Q=>l σ H fun J h=>∀D,h D=none->∃W:Nat->Nat->St->Hp->Prop,
 (∃m,W 0 m (caps σ) (upd h D (.lst [])))/\∀i m e c,W i m e c ->
  (J.stop i c/\Q (.ref D) c)\/(J.go i c/\∀x f,J.mz i c x f->g x e f fun a n=>tc a n fun b j =>
   if b=true then te a j fun y k=>∃ys,k D=some (.lst ys)/\ys.length<dk/\∃d,d<m/\W (i+1) d a (upd k D (.lst (ys++[y])))
   else ∃d,d<m/\W (i+1) d a j)
theorem yC{caps:List (Option Nat)}{elt iter tg:gi}{ifs:List gi}{pos:u3}{it:dR}{f:List dR}{V:Nat->nS->Prop}{J:It}{j:Hp}{g:TG}{tc:TT}{te:TE}{cl:List (eA×dR)}{Q:VK}{RR:bR->dR->Yq->dr->Prop}
 (I2:Inv X pins σ j s₂)(T:Turn X.prog X.w X.K tg J f it V)(RN:V 0 s₂.heap)(f2:∀b∈f,iq X pins j b)(hc:X.calm=true)(S:i9 X.env.scope scope)(RY:gv X.N NB scope caps=true)
 (RO:∀x c,cl.lookup x=some c->X.env.cells.lookup x=some c)(R9:∀y∈scope.names,y.2=.free->(cl.lookup y.1).isSome=true)
 (h:∀(cl:List (eA×dR)) (C:dR) (a:dr) (H:Hp) (f:List dR),PG (bV X NB scope cl C a H f) tg g/\PF (bV X NB scope cl C a H f) ifs tc/\PE (bV X NB scope cl C a H f) elt te)
 (hW:∀D,j D=none->∃W:Nat->Nat->St->Hp->Prop,(∃m,W 0 m (eJ caps σ) (upd j D (.lst [])))/\∀i m G k,W i m G k ->
   (J.stop i k/\Q (.ref D) k)\/(J.go i k/\∀x RP,J.mz i k x RP->g x G RP fun O j=>tc O j fun b H3 =>
    if b=true then te O H3 fun y H4=>∃ys,H4 D=some (.lst ys)/\ys.length<dk/\∃F,F<m/\W (i+1) F O (upd H4 D (.lst (ys++[y])))
    else ∃F,F<m/\W (i+1) F O H3))
 (Sb:∀D C k s' m,Inv X pins σ k s'->s'.heap.Ns C m->iq X pins k C->Q (.ref D) k->RR (.ref D) C (.ok .next) s') :
  gW (ib X.prog X.w) X.A (newList []) (fun RQ a=>gW (ib X.prog X.w) X.A (newFunctionEnv scope X.env.globals cl [] X.env.qual none .none (some X.env)) (fun RD L =>
   Wj (ib X.prog X.w) X.A (.compStart (.ListComp elt [⟨tg,iter,ifs,0⟩] scope pos) 0 (.ref it) RQ {RD with scope:=XB scope X.env}) (RR RQ RD.locals) L) E a) E s₂:=by
 refine z3 (wpAny_newFunctionEnv S.DH (by intro y hy;simp at hy) (fun l t B=>?_) S.kind)
 have I3:Inv X pins σ (upd j s₂.heap.objs.size (.lst [])) {s₂ with heap:=s₂.heap.push {cls:=.type "list",data:=.seq ([]:List bR).toArray},toks:=s₂.toks} :=
  I2.ud .nil (ro _)
 obtain⟨W,⟨m0,w0⟩,hW⟩:=hW s₂.heap.objs.size I2.fresh;generalize RE:({s₂ with heap:=s₂.heap.push {cls:=.type "list",data:=.seq ([]:List bR).toArray},toks:=s₂.toks}:dr)=a at I3
 have RF:=congrArg (·.heap) RE;have et3:=congrArg (·.toks) RE
 have hsz:s₂.heap.objs.size<a.heap.objs.size:=by rw[<-RF,VO];exact Vw _
 (try rw[RF] at t B)
 have keep:∀b o,a.heap.get? b=some o->l.get? b=some o:=fun b o e=>B.extBut b o (gs (eS e)) (eu _ e)
 have Sd:∀b o,s₂.heap.get? b=some o->a.heap.get? b=some o:=fun b o e=>by rw[<-RF];exact eu _ e
 have R:∀b∈f,iq X pins (upd j s₂.heap.objs.size (.lst [])) b/\b<a.heap.objs.size:=fun b h=>by
  obtain⟨o,e,_⟩:=T.obj _ _ RN b h;have lt:=eS e;exact⟨⟨by rw[aw (gs lt)];exact (f2 b h).1,(f2 b h).2⟩,Ws lt hsz⟩
 have Se:=T.keep _ _ _ RN fun b _ o e=>keep b o (Sd b o e)
 have Sf:=t
 have IB:Inv (bV X NB scope cl a.heap.objs.size a (upd j s₂.heap.objs.size (.lst [])) f) [] (eJ caps σ) (upd j s₂.heap.objs.size (.lst [])) {a with heap:=l,toks:=a.toks+([]:List (eA×bR)).length} :=
  PK I3 S RY RO R9 Sf keep R
 have qz:V 0 ({a with heap:=l,toks:=a.toks+([]:List (eA×bR)).length}:dr).heap:=Se
 generalize ({a with heap:=l,toks:=a.toks+([]:List (eA×bR)).length}:dr)=L at IB qz ⊢
 have RG:∀{k:Hp},(∀b∈f,k b=none)->∀b∈f,iq (bV X NB scope cl a.heap.objs.size a (upd j s₂.heap.objs.size (.lst [])) f) [] k b:=fun hn b h=>by
  obtain⟨⟨f0,f1,RS,f3,f4,f5⟩,lt⟩:=R b h;refine⟨hn b h,gs lt,fun hm=>?_,.inl h,fun x c e=>f4 x c (RO x c e),fun p hp=>absurd (show p∈([]:List (dR×wm)) from hp) (by simp)⟩
  rcases ey.mp (I2.pY b hm) with z|z
  ·exact f1 z
  ·exact RS z
 obtain⟨bG,bF,bE⟩:=h cl a.heap.objs.size a (upd j s₂.heap.objs.size (.lst [])) f;have RH:Wj (ib X.prog X.w) X.A (.compLoop (.ListComp elt [⟨tg,iter,ifs,0⟩] scope pos) 0 (.ref it) (.ref s₂.heap.objs.size) (compEnvC scope cl a.heap.objs.size X.env)) (RR (.ref s₂.heap.objs.size) a.heap.objs.size) L:=by
  refine NJ (fun n s'=>∃i G k,Inv (bV X NB scope cl a.heap.objs.size a (upd j s₂.heap.objs.size (.lst [])) f) [] G k s'/\V i s'.heap/\(∀b∈f,k b=none)/\W i n G k) ?_ m0
   ⟨0,_,_,IB,qz,fun b h=>(R b h).1.1,w0⟩
  rintro n s5 ⟨i,U,H5,I5,RT,RU,w5⟩
  rcases hW i n U H5 w5 with⟨stop,q⟩|⟨go,step⟩
  ·refine aC (T.done (bV X NB scope cl a.heap.objs.size a (upd j s₂.heap.objs.size (.lst [])) f) rfl rfl rfl hc i [] s5 U H5 (fun _ _=>False) I5 (RG RU) RT stop) fun r s6 ⟨hr,Y⟩=>?_
   subst hr;obtain⟨m,hn,_⟩:=Y.loc;refine Sb _ _ H5 s6 m ?_ hn (I3.la (eB _) Y.free) q;refine I3.zM Y.os Y.base Y.ai Y.bare fun b h=>?_
   obtain⟨⟨f0,f1,RS,f3,f4,f5⟩,lt⟩:=R b h;exact⟨f3,f1,f4,f5⟩
  ·refine aC (T.item (bV X NB scope cl a.heap.objs.size a (upd j s₂.heap.objs.size (.lst [])) f) rfl rfl rfl hc i [] s5 U H5 (fun _ _=>False) I5 (RG RU) RT go) fun r s6 ⟨u,hr,h6⟩=>?_
   subst hr;refine aC h6 fun _ s7 ⟨x,H7,I7,r7,y7,RI,So⟩=>?_
   have Sq:=I7.pinned (RG So) (T.obj _ _ RI);have back:∀{RJ:St}{M:Hp}{Z:dr},Inv (bV X NB scope cl a.heap.objs.size a (upd j s₂.heap.objs.size (.lst [])) f) ([]++qC f s7.heap) RJ M Z ->
     Inv (bV X NB scope cl a.heap.objs.size a (upd j s₂.heap.objs.size (.lst [])) f) [] RJ M Z/\V (i+1) Z.heap/\∀b∈f,M b=none:=fun {RJ M Z} I9=>by
    refine⟨I9.tS,T.keep _ _ _ RI fun b h o e=>(I9.pin (b,o) (iW _ (iW _ (rW h e)))).1,fun b h=>?_⟩
    obtain⟨o,e,d⟩:=T.obj _ _ RI b h;exact (I9.pin (b,o) (iW _ (iW _ (rW h e)))).2.1
   refine aC (bG _ s7 U H7 x u _ Sq r7 (step x H7 y7)) fun _ s8 ⟨I,H8,I8,q8⟩=>?_
   refine aC (bF _ s8 I H8 _ I8 q8) fun ok Z ⟨M,I9,q9⟩=>?_
   cases ok with
   | false =>
    obtain⟨F,hm,w9⟩:=q9;obtain⟨a1,a2,a3⟩:=back I9;exact⟨F,hm,i+1,I,M,a1,a2,a3,w9⟩
   | true =>
    refine aC (bE _ Z I M _ I9 q9) fun v Ss ⟨y,RV,Su,Sv,ys,hD,hz,F,hm,Sw⟩=>?_
    refine aC (Df _ Ss I RV (.ref s₂.heap.objs.size) [y] (.ref s₂.heap.objs.size) [v] (fun _ RW=>RW=upd RV s₂.heap.objs.size (.lst (ys++[y]))) Su rfl (.cons Sv .nil) ⟨_,ys,y,rfl,rfl,hD,hz,rfl⟩) fun _ s11 ⟨_,RW,Sx,_,Sy⟩=>?_
    subst Sy;obtain⟨a1,a2,a3⟩:=back Sx;exact⟨F,hm,i+1,I,_,a1,a2,a3,Sw⟩
 exact codeAny_compStart_list RH (T.self _ 0 _ _ _ qz RH)
end
section
variable{X:Cx}{NB:List eA}{caps:List (Option Nat)}{scope:Ux}{elt iter tg:gi}{ifs:List gi}{pos:u3}{wi:TI}{g:TG}{tc:TT}{te:TE}{P:iN}{w:nE}{H:Hp}{h h':nS}{a:dR}{o:HO}{pins:List (dR×wm)}{σ:St}{s:dr}
theorem Eh(z:X.calm=true)(S:i9 X.env.scope scope)(i:gv X.N NB scope caps=true)(B:PI X tg iter wi)
 (j:∀(cl:List (eA×dR)) (C:dR) (c:dr) (H:Hp) (d:List dR),PG (bV X NB scope cl C c H d) tg g/\PF (bV X NB scope cl C c H d) ifs tc/\PE (bV X NB scope cl C c H d) elt te)
 (hs:∀x,r0 iter X.env x=pure x:=by intro _;rfl):PE X (.ListComp elt [⟨tg,iter,ifs,0⟩] scope pos) (rq (eJ caps) wi g tc te):=by
 intro pins s σ H Q I h;obtain⟨cl,f,p,r⟩:=yX (fun y E k=>I.ok.has y.1 (S.free y E k))
 refine YN rfl hs f S.kind S.loc (aC (B pins s σ H _ I h) fun xv s₁ l=>aC l fun itv s₂ n=>?_)
 obtain⟨it,d,tn,J,H2,rfl,F,T,t,G,K⟩:=n;refine yC F T t G z S i p r j K ?_
 intro D C L s' m M O k q;refine⟨m,O,fun h' v=>⟨.ref D,L,?_,rfl,q⟩⟩
 obtain⟨R,U,f2',V,W,Y⟩:=k;exact M.turned (fun b o j e=>(v.2 b j).trans e) R U V W Y
theorem M6{i:Nat}{y:eA}{py d:u3}(hN:X.N.Nodup)(E:X.N[i]?=some y)(l:Loc X.env.scope y)(hc:X.calm=true)(S:i9 X.env.scope scope)(n:gv X.N NB scope caps=true)(hi:PI X tg iter wi)
 (p:∀(cl:List (eA×dR)) (C:dR) (c:dr) (H:Hp) (j:List dR),PG (bV X NB scope cl C c H j) tg g/\PF (bV X NB scope cl C c H j) ifs tc/\PE (bV X NB scope cl C c H j) elt te)
 (F:xn (.ListComp elt [⟨tg,iter,ifs,0⟩] scope pos) (some (.Name y py)) d.line X.env=pure true)
 (hs:∀x,r0 iter X.env x=pure x:=by intro _;rfl)(r:X.fn y=true\/X.env.scope.names.lookup y=some .local:=by first|exact .inl rfl|exact .inr rfl|assumption) :
  PS X (.Assign [.Name y py] (.ListComp elt [⟨tg,iter,ifs,0⟩] scope pos) d) (yb (rq (eJ caps) wi g tc te) (qW i)):=by
 intro pins s σ H D I h;obtain⟨cl,k,G,K⟩:=yX (fun y l r=>I.ok.has y.1 (S.free y l r))
 rw[exec_Assign_Name_used _ _ _ _ F];refine cn (Xe (cn ?_));show gW _ X.A (do let _ <-comprehension (.ListComp elt [⟨tg,iter,ifs,0⟩] scope pos) scope X.env _ (newList []) false (eval iter X.env) (some (Vg (.Name y py) X.env))) _ _ s
 refine cn (u2 (YN rfl hs k S.kind S.loc (aC (hi pins s σ H _ I h) fun xv s₁ t=>aC t fun itv s₂ u=>?_)) (fun _ s' hq=>eK (eK hq)) fun _ _ e=>e)
 obtain⟨it,j,tn,J,H2,rfl,I2,T,L,f2,hW⟩:=u;refine yC (Q:=fun x H1=>qW i x σ H1 D.nx) I2 T L f2 hc S n G K p hW ?_
 intro O C H' s' m I' hn R q;obtain⟨f0,U,f2',f3,V,f5⟩:=R;refine aag (Am (v:=.ref O) I' hN E l rfl (fun W Y f=>?_) r)
 obtain⟨a,f,ha⟩:=f;have Z:C≠a:=by
  rintro rfl
  rcases ha with z|z
  ·exact U z
  ·exact V _ _ z rfl
 refine⟨m,hn.sameBut f Z,fun h' B=>?_⟩
 exact⟨_,H',Y.turned (fun b o p e=>(B.2 b p).trans e) f0 U f3 V f5,q⟩
theorem cm.alive(x:cm P w H h a o):∃u,h.get? a=some u:=by
 cases o with
 | lst xs=>obtain⟨z,its,n,r,e⟩:=x;exact⟨_,e⟩
 | tup xs=>obtain⟨z,its,r,ob,e,c⟩:=x;exact⟨_,e⟩
 | dK kvs=>obtain⟨z,y,vs,r,ob,b,ep,e,c⟩:=x;exact⟨_,e⟩
 | dT kvs=>obtain⟨z,y,xs,r,ob,b,ep,e,c⟩:=x;exact⟨_,e⟩
 | set S n=>obtain⟨ob,b,ep,t,e,c⟩:=x;exact⟨_,e⟩
 | ins C dx fs=>obtain⟨d,z,ne,e,i,_⟩:=x;exact⟨_,e⟩
 | own y=>exact x
 | xd fs=>obtain⟨i,⟨od,b,ep,e,c⟩,r⟩:=x;exact⟨_,e⟩
 | pG lo hi=>obtain⟨t,u,v,e⟩:=x;exact⟨_,e⟩
 | a9 ob u=>obtain⟨e,q⟩:=x;exact⟨_,e⟩
 | kF ps=>exact⟨_,x⟩
 | met f y=>exact⟨_,x⟩
 | ext φ=>obtain⟨p,e,st⟩:=x;exact e
theorem bP.tracked(x:bP P w H h)(k:∀b u,H b≠none->h.get? b=some u->h'.get? b=some u):bP P w H h':=fun c ob e =>
 (x c ob e).fW (fun b u d q=>k b u (by
  rcases d with z|z
  ·rw[z,e];simp
  ·rw[z];simp) q) (fun _ q=>q) fun _ _ q=>q
theorem bP.dead(x:bP P w H h)(e:h.get? a=none):H a=none:=by
 cases q:H a with
 | none=>rfl
 | some u=>obtain⟨v,z⟩:=(x a u q).alive;rw[e] at z;exact nO z
structure Flt (av:List dR) (H:Hp) (h₀:nS) (a:dR) (cls fl:bR) (h:nS):Prop where
 ex:∃(a0:bR) (T:dR) (oe oT:wm) (vs ts:Array bR),h.get? a=some oe/\oe.cls=cls/\oe.data=.fields vs/\vs[0]?=some a0/\vs[1]?=some (.ref T)/\T≠a/\h.get? T=some oT/\oT.data=.fields ts/\ts[3]?=some fl/\H T=none/\h₀.get? T=none/\T∉av
 na:H a=none
 nw:h₀.get? a=none
 nv:a∉av
theorem Inv.yK{h':nS}{tk:Nat}{ch:List dR}(I:Inv X pins σ H s)
 (j:∀b∈ch,H b=none/\X.cE.heap.get? b=none/\(∀o,s.heap.get? b=some o->∃vs,o.data=.fields vs)/\∀p∈X.pn++pins,p.1≠b)
 (keep:∀b o,b∉ch->b∉cV X.stack->s.heap.get? b=some o->h'.get? b=some o)
 (slot:∀b o,b∉ch->b∈cV X.stack->s.heap.get? b=some o->∃sl,h'.get? b=some {o with slots:=sl}):Inv X pins σ H {s with heap:=h',toks:=tk}:=by
 have any:∀b o,b∉ch->s.heap.get? b=some o->∃sl,h'.get? b=some {o with slots:=sl}:=fun b o f e=>by
  by_cases z:b∈cV X.stack
  ·exact slot b o f z e
  ·exact⟨o.slots,keep b o f z e⟩
 have y:∀b o,X.cE.heap.get? b=some o->b∉ch:=fun b o e f=>by rw[(j b f).2.1] at e;exact nO e
 have J:∀b o,X.cE.heap.get? b=some o->b≠X.env.locals:=fun b o e=>gs (hI (eS e) I.ok.above)
 have ji:∀b,b∈cV X.stack->b≠X.env.locals->b∈X.fs:=fun b f hl=>by
  rcases ey.mp (I.pY b f) with z|z
  ·exact absurd z hl
  ·exact z
 have D:∀x c,X.env.cells.lookup x=some c->c∉ch:=fun x c e f=>by
  obtain⟨v,o,ho,hd⟩:=I.cell x c e;obtain⟨vs,z⟩:=(j c f).2.2.1 o ho;rw[hd] at z;contradiction
 have t:∀x c,X.env.cells.lookup x=some c->∀v,s.heap.IsCell c v->h'.IsCell c v:=fun x c e v ⟨o,ho,hd⟩=>by
  obtain⟨sl,q⟩:=any c o (D x c e) ho;exact⟨_,q,hd⟩
 obtain⟨m,K,hl⟩:=I.loc;have hn0:=K;obtain⟨L,O,ep,E,F,Q⟩:=K;have G:X.env.locals∉ch:=fun f=>by
  obtain⟨vs,z⟩:=(j _ f).2.2.1 L E;rw[F] at z;contradiction
 obtain⟨slL,R⟩:=any _ L G E;refine⟨I.ok,I.os,I.bare,⟨fun b o e n f A=>?_,fun b o e n f A=>?_,I.base.free,fun b o e A=>?_,I.base.gJ,I.base.gB,I.base.gN⟩,⟨m,⟨_,O,ep,R,F,Q⟩,fun i x v B C S=>?_⟩,fun x c e=>?_,I.free,I.d9,fun p M=>?_,?_,I.len⟩
 ·exact keep b o (y b o e) (fun z=>f (ji b z (J b o e))) (I.base.keep b o e n f A)
 ·obtain⟨sl,B⟩:=I.base.slot b o e n f A;obtain⟨N,C⟩:=any b _ (y b o e) B;exact⟨N,C⟩
 ·obtain⟨T,B⟩:=I.base.there b o e A;obtain⟨sl,C⟩:=any b T (y b o e) B;exact⟨_,C⟩
 ·obtain⟨u,r,l⟩:=hl i x v B C S;refine⟨u,r,?_⟩
  rcases l with l|⟨k,c,e,z⟩
  ·exact .inl l
  ·exact .inr ⟨k,c,e,t x c e _ z⟩
 ·obtain⟨v,z⟩:=I.cell x c e;exact⟨v,t x c e v z⟩
 ·obtain⟨e,n,ne,nf,d⟩:=I.pin p M;exact⟨keep p.1 p.2 (fun z=>(j _ z).2.2.2 p M rfl) (fun z=>nf (ji _ z ne)) e,n,ne,nf,d⟩
 ·refine I.ai.tracked fun b u f e=>keep b u (fun z=>f (j b z).1) (fun z=>f (I.wo b z)) e
abbrev n9(X:Cx)(pins:List (dR×wm)):List Addr:=(X.pn++pins).map (·.1)
theorem Inv.sG{a:dR}{cls fl:bR}(I:Inv X pins σ H s)(F:Flt (n9 X pins) H X.cE.heap a cls fl s.heap)(t:X.ex=[]) :
  ∃a0 B,B.StaysIn s.heap/\B.get? a=none/\s.heap.FunFrames B X.stack/\s.heap.TracedAtW B a cls a0 fl /\
   ∀(h':nS) (tk:Nat) (i:bR),B.StaysIn h'->h'.TracedAtW B a cls a0 i->s.heap.UpToSlots h'->Inv X pins σ H {s with heap:=h',toks:=tk}/\Flt (n9 X pins) H X.cE.heap a cls i h':=by
 obtain⟨⟨a0,T,oe,oT,vs,ts,u,e2,v,e4,e5,e6,x,A,e9,C,D,E⟩,na,G,J⟩:=F;have k:=I.stack;have nfr:∀{b:dR}{o:wm}{us:Array bR},s.heap.get? b=some o->o.data=.fields us->b∉cV X.stack:=fun {b o us} q d f=>by
  obtain⟨_,K,L,n⟩:=k.mem f;rw[q] at L;obtain rfl:=sO L;exact n _ d
 have M:∀env∈X.stack,∀b,env.frame=some b->b∈a::T::cV X.stack:=fun env he b f=>fm _ (fm _ (z9.mpr ⟨env,he,f⟩))
 refine⟨a0,Z6 s.heap (a::T::cV X.stack),fun b o q=>YQ _ q,Ye _ fv,Z7 k M,⟨oe,vs,T,oT,ts,u,⟨e2,e4⟩,v,e5,Ye _ (fm _ fv),e6,x,A,e9⟩,?_⟩
 intro h' tk i hB tr up;have keep:∀b o,b∉[a,T]->b∉cV X.stack->s.heap.get? b=some o->h'.get? b=some o:=fun b o l m q=>by
  refine hB b o (We _ q fun z=>?_)
  rcases ey.mp z with z|z
  ·exact l (by simp[z])
  ·rcases ey.mp z with z|z
   ·exact l (by simp[z])
   ·exact m z
 have j:∀b,b∉n9 X pins->∀p∈X.pn++pins,p.1≠b:=fun b f p r z=>f (z ▸ List.mem_map_of_mem r)
 refine⟨I.yK (ch:=[a,T]) (fun b f=>?_) keep (fun b o l m q=>up b o q (k.mem m |>.2.elim fun K z=>by rw[z.1] at q;obtain rfl:=sO q;exact z.2)),?_⟩
 ·rcases ey.mp f with z|z
  ·subst z;exact⟨na,G,fun o q=>by rw[u] at q;obtain rfl:=sO q;exact⟨_,v⟩,j _ J⟩
  ·have z:b=T:=by simpa using z
   subst z;exact⟨C,D,fun o q=>by rw[x] at q;obtain rfl:=sO q;exact⟨_,A⟩,j _ E⟩
 ·obtain⟨N,O,c,Q,R,f1,⟨f2,f4⟩,f3,f5,S,U,V,Y,f9⟩:=tr;have hT:s.heap.get? c=none\/c=T:=by
   cases q:s.heap.get? c with
   | none=>exact .inl rfl
   | some o =>
    by_cases z:c=T
    ·exact .inr z
    ·by_cases Z:c∈cV X.stack
     ·obtain⟨_,o2,q2,n⟩:=k.mem Z;obtain⟨sl,q3⟩:=up c o2 q2 n;rw[V] at q3;obtain rfl:=sO q3;exact absurd Y (n _)
     ·have:=We (a::T::cV X.stack) q (by
       intro y
       rcases ey.mp y with y|y
       ·exact U y
       ·rcases ey.mp y with y|y
        ·exact z y
        ·exact Z y)
      rw[S] at this;exact nO this
  refine⟨⟨a0,c,N,Q,O,R,f1,f2,f3,f4,f5,U,V,Y,f9,?_⟩,na,G,J⟩
  rcases hT with q|q
  ·refine⟨I.ai.dead q,?_,fun z=>?_⟩
   ·cases y:X.cE.heap.get? c with
    | none=>rfl
    | some o =>
     obtain⟨K,y'⟩:=I.base.there c o y (by rw[t];simp)
     rw[q] at y';exact nO y'
   ·obtain⟨p,r,e⟩:=bg.mp z;have:=(I.pin p r).1;rw[e,q] at this;exact nO this
  ·subst q;exact⟨C,D,E⟩
end
def dF(P:iN)(w:nE):ij:=fun outer H s E e s'=>∃a cls b,e=.ref a/\s'.os=s.os/\WK s'.gens/\Un (cV outer) [] H b s.heap s'.heap/\bP P w b s'.heap/\Flt [] b s.heap a cls .none s'.heap/\E cls (some a) b
def lX(X:Cx)(c:St)(cls:bR)(a:dR)(H:Hp):Prop:=∀(b:List (dR×wm)) (s:dr),Inv X b c H s->Flt (n9 X b) H X.cE.heap a cls .none s.heap->X.xe (.ref a) s
def uL(X:Cx)(c:St)(C:dR)(H:Hp):Prop:=∀(b:List (dR×wm)) (s:dr) (h':nS) (a:dR) (vs:List bR),Inv X b c H s->Heap.MadeExcOf s.heap h' a (.ref C) vs->X.xe (.ref a) {s with heap:=h'}
theorem Flt.weak{e d:List dR}{H:Hp}{h₀ c h:nS}{a:dR}{cls fl:bR}(F:Flt e H h₀ a cls fl h)(k:∀b,b∉e->h₀.get? b=none->b∉d/\c.get? b=none):Flt d H c a cls fl h:=by
 obtain⟨⟨a0,T,l,m,vs,n,o,p,q,r,s,t,u,v,w,x,f,g⟩,na,i,j⟩:=F;exact⟨⟨a0,T,l,m,vs,n,o,p,q,r,s,t,u,v,w,x,(k T g f).2,(k T g f).1⟩,na,(k a j i).2,(k a j i).1⟩
section
variable{P:iN}{w:nE}{K:fj}{mg:eA->Option bR}{base:nS}{N:List eA}{qual:eA}{scope:Ux}{f:dR}{cd:bR}{A:n6}{outer:List Xo}{s:dr}{H:Hp}{E:XK}{σ:St}{cls:bR}{a C:dR}{H1:Hp}
theorem Nk(e:E cls (some a) H1):lX (dA (dF P w) P w K mg base N qual scope f cd A outer s H E) σ cls a H1:=by
 intro pins c I F;obtain⟨a0,B,g,d,h,tr,nx⟩:=I.sG F rfl;show gW _ _ (leaving _ (.ref a)) _ _ c;refine wpAny_leaves_onW (base:=B) (L:=s.heap.objs.size) (a0:=a0) (cls:=cls) (outer:=outer) I.ok.frames rfl ⟨g,d,h,tr⟩ fun h' fl up=>?_
 obtain⟨J,i⟩:=nx h' c.toks .none fl.1 fl.2.2.2 up;exact⟨a,cls,H1,rfl,J.os,J.bare,J.base,J.ai,i.weak fun b _ j=>⟨by simp,j⟩,e⟩
theorem GS(G:∀a,E (.ref C) (some a) H1):uL (dA (dF P w) P w K mg base N qual scope f cd A outer s H E) σ C H1:=by
 intro i c h' a vs I made;have j:=I.stack;have k:∀env∈(dA (dF P w) P w K mg base N qual scope f cd A outer s H E).stack,∀b,env.frame=some b->b∈cV (dA (dF P w) P w K mg base N qual scope f cd A outer s H E).stack:=fun env M b d=>z9.mpr ⟨env,M,d⟩
 have l:=Z7 j k;have e:∀b,c.heap.get? b=none->s.heap.get? b=none:=fun b q=>by
  cases y:s.heap.get? b with
  | none=>rfl
  | some o =>
   obtain⟨O,m⟩:=I.base.there b o y (by simp[dA])
   rw[q] at m;exact nO m
 show gW _ _ (leaving _ (.ref a)) _ _ _;refine wpAny_leaves_madeW (base:=Z6 c.heap (cV (dA (dF P w) P w K mg base N qual scope f cd A outer s H E).stack)) (h:=c.heap) (L:=s.heap.objs.size) (outer:=outer) I.ok.frames rfl (fun b o q=>YQ _ q) l made fun p t fl tup tn up=>?_
 have g:c.heap.UpToSlots p:=(aak made.keeps).trans up;have J:Inv (dA (dF P w) P w K mg base N qual scope f cd A outer s H E) i σ H1 {c with heap:=p,toks:=c.toks}:=by
  refine I.yK (ch:=[]) (fun b d=>absurd d (by simp)) (fun b o _ d q=>fl.1 b o (We _ q d)) fun b o _ d q=>g b o q ?_
  obtain⟨_,O,r,n⟩:=j.mem d;rw[q] at r;obtain rfl:=sO r;exact n
 refine⟨a,.ref C,H1,rfl,J.os,J.bare,J.base,J.ai,?_,G a⟩;obtain⟨Q,u,T,R,S,U,⟨V,X⟩,Y,Z,v,f6,x,B,f9⟩:=fl.2.2.2;have D:c.heap.get? T=none:=by
  cases q:c.heap.get? T with
  | none=>rfl
  | some o =>
   by_cases z:T∈cV (dA (dF P w) P w K mg base N qual scope f cd A outer s H E).stack
   ·obtain⟨_,o2,q2,n⟩:=j.mem z;obtain⟨sl,F⟩:=g T o2 q2 n;rw[x] at F;obtain rfl:=sO F;exact absurd B (n _)
   ·have:=We _ q z;rw[v] at this;exact nO this
 exact⟨⟨_,T,Q,R,u,S,U,V,Y,X,Z,f6,x,B,f9,I.ai.dead D,e T D,by simp⟩,I.ai.dead made.new,e a made.new,by simp⟩
end
section
variable{X:Cx}{pins:List (dR×wm)}{σ:St}{H:Hp}{s:dr}
theorem L0{K:fj}{h:nS}{C:dR}{b:List bR}{a:String}(k:K.In h)(q:X6 K C b a=true) :
  ∃bm N nm c bs hd sn sub ab col dd k0 k1 k2 k3 k5 mN,h.get? C=some (excClassObj nm c C N bs bm hd sn sub ab col dd k0 k1 k2 k3 k5 a)/\h.Ns N mN/\mN "__init__"=none/\OwnTail h b bm:=by
 unfold X6 at q;split at q
 case h_2=>contradiction
 case h_1 dd cd sl ho =>
  split at q
  case h_2=>contradiction
  case h_1 C' bm k0 k1 k2 k3 n k5 hm hs =>
   simp only[ee,ee,ee,ee,ee] at q;obtain⟨⟨⟨⟨⟨f,g⟩,i⟩,o⟩,d⟩,j⟩:=q;have p:C'=C:=by simpa using f
   have r:n=a:=by simpa using g
   have l:cd.hasDel=false:=by simpa using i
   have m:=beq_iff_eq.mp j;clear f g i j;subst p r
   rcases cd with⟨nm,bs,mro,t,c,hd,sn,sub,ab,col,del⟩
   simp only at hm l d m;subst hm l;have e:sl=#[k0,k1,k2,k3,some (.builtin n),k5]:=by
    cases sl;simp only at hs;rw[hs]
   subst e;exact⟨bm,t,nm,c,bs,hd,sn,sub,ab,col,dd,k0,k1,k2,k3,k5,_,k _ _ ho,.of_isNs (W.isNs_of_in k d),W.nsMap_none_of_in k d m,W.tail_of_in k o⟩
def Fo(X:Cx)(C:dR)(t:TA):TS:=fun _ σ H=>t σ H fun vs a=>vs.length<=dk/\uL X σ C a
theorem Hm{x:eA}{C:dR}{e:gi}{d:List gi}{t:TA}{B c f:String}{j:List bR}{p b pos:u3}(k:Zn B c f j)(u:X6 X.K C j c=true)(g:X.A.handled=none)(v:Gl X x)(hm:X.mg x=some (.ref C))(w:PA X (e::d) t)
 (l:bb x:=by decide)(m:bp X e d:=by rfl)(n:(KX b (lq d X.env)).any (·.1)=false:=by rfl) :
  PS X (.Raise (some (.Call (.Name x p) (e::d) [] b)) none pos) (Fo X C t):=by
 intro pins s σ H D I h;obtain⟨bm,y,nm,E,bs,hd,sn,sub,ab,col,dd,k0,k1,k2,k3,k5,mN,F,G,o,T⟩:=L0 I.ok.mod.qE u;refine wpAny_Raise_call_subT (C:=C) (nm:=nm) (q:=E) (N:=y) (bs:=bs) (bm:=bm) (hdct:=hd) (sn:=sn) (sub:=sub) (ab:=ab) (col:=col) (dd:=dd) (k0:=k0) (k1:=k1) (k2:=k2) (k3:=k3) (k5:=k5) k (mN:=mN) (T.hasType k.hasBase) g (by rw[m];show (false||(KX b (lq d X.env)).any (·.1))=false;rw[n];rfl) o (nC I v hm ⟨rfl,?_⟩ l)
 have q:=w b pins s σ H _ I h;rw[m] at q ⊢;refine Yw (aC q fun us J ⟨vs,H1,i,r,z,L⟩=>?_)
 exact⟨rfl,by rw[<-r.length];exact z,i.bk _ _ F,G.keeps i.bk,T.keeps i.bk,fun h' a made=>L pins J h' a us i made⟩
def G2(X:Cx)(sp:Sp)(t:TA):TE:=fun σ H Q=>t σ H fun vs c=>∃E,sp vs c Q E/\∀cls a b,E cls (some a) b->lX X σ cls a b
variable{k:Nat}{f C:dR}{fd:hQ}{ps:List eA}{sp:Sp}{E:XK}{x m:eA}{p pos apos:u3}{e o:gi}{es:List gi}{ta:TE}{t:TA}
theorem L6{Q:VK}{us:List bR}{vs:List V}(F:aO X.prog X.w X.K X.mg X.base (dF X.prog X.w) k f fd ps sp)(v:Room k X.A)(d:Binds X.K fd ps [])(i:X.ex=[])(I:Inv X pins σ H s)(r:aD vs us)(h:sp vs H Q E)
 (B:∀cls a j,E cls (some a) j->lX X σ cls a j):gW (ib X.prog X.w) X.A (call (.ref f) us) (EP X pins σ Q) X.xe s:=by
 have hl:(us++[]).length=ps.length:=by rw[r4,<-r.length];exact F.len _ _ _ _ h
 have g:=d s us I.dZ hl;rw[r4] at g;refine ZU (Vo (F.run X.A X.stack s H ⟨us,[]⟩ us vs Q E v I.B3 g r h) fun r s' c=>?_)
 cases r with
 | error e =>
  obtain⟨a,cls,l,rfl,os,bare,un,ai,fl,D⟩:=c;have J:Inv X pins σ l s':=I.zM (ch:=[]) os un ai bare (fun b z=>absurd z (by simp))
  refine B cls a l D pins s' J (fl.weak fun b _ d=>⟨fun z=>?_,?_⟩)
  ·obtain⟨q,c,e⟩:=bg.mp z;have:=(I.pin q c).1;simp only[e,d] at this;exact nO this
  ·cases y:X.cE.heap.get? b with
   | none=>rfl
   | some o =>
    obtain⟨o',n⟩:=I.base.there b o y (by rw[i];simp)
    rw[d] at n;exact nO n
 | ok fl =>
  cases fl with
  | ret u=>exact I.after c
  | next=>exact za c
  | brk=>exact za c
  | cont=>exact za c
theorem xk(F:aO X.prog X.w X.K X.mg X.base (dF X.prog X.w) k f fd ps sp)(g:Room k X.A)(i:Gl X x)(hm:X.mg x=some (.ref f))(j:VA X.K (.ref f)=true)(l:Binds X.K fd ps [])(a:X.ex=[])
 (n:PA X (e::es) t)(b:bb x:=by decide)(u:bp X e es:=by rfl)(c:(KX pos (lq es X.env)).any (·.1)=false:=by rfl) :
  PE X (.Call (.Name x p) (e::es) [] pos) (G2 X sp t):=by
 intro pins s σ H Q I h;refine Vf (nC I i hm ?_ b);refine abd (h₀:=X.base) I.ok.mod.qE j (aC (n pos pins s σ H _ I h) fun us s1 ⟨vs,H1,d,r,E,q,v⟩=>⟨d.dZ,?_⟩) u c
 exact L6 F g l a d r q v
end
def De(a:dR)(cls:bR)(h:nS):Prop:=∃o vs,h.get? a=some o/\o.cls=cls/\o.data=.fields vs
noncomputable def excAt(a:dR)(cls:bR):HO:=.ext (De a cls)
section
variable{X:Cx}{pins:List (dR×wm)}{σ:St}{H:Hp}{s:dr}{prog:iN}{w:nE}{A:n6}{E:bR->dr->Prop}{K:fj}{h:nS}{g:Array XI}{d:Drawn}{t:Nat}{os:OsState}{a C:dR}{o:wm}
theorem Inv.LZ{a:dR}{cls fl:bR}(I:Inv X pins σ H s)(F:Flt (n9 X pins) H X.cE.heap a cls fl s.heap):Inv X pins σ (upd H a (excAt a cls)) s:=by
 obtain⟨⟨a0,T,l,oT,vs,ts,f,B,j,_⟩,na,D,G⟩:=F;have ne:∀b u,H b=some u->b≠a:=fun b u q z=>by rw[z,na] at q;exact nO q
 obtain⟨m,J,hl⟩:=id I.loc;obtain⟨oL,es,ep,i,r,hr⟩:=J;have L:X.env.locals≠a:=fun z=>by simp only[z,f] at i;obtain rfl:=sO i;rw[j] at r;contradiction
 refine⟨I.ok,I.os,I.bare,⟨I.base.keep,I.base.slot,fun b o e n M=>?_,I.base.there,fun b xs e=>?_,fun b o u e=>?_,fun b N e=>?_⟩,I.loc,I.cell,?_,fun x c e=>?_,fun p y=>?_,fun b u e=>?_,I.len⟩
 ·rw[aw (fun z=>by rw[z,D] at e;exact nO e)]
  exact I.base.free b o e n M
 ·have q:=I.base.gJ b xs e;rw[aw (ne b _ q)];exact q
 ·have q:=I.base.gB b o u e;rw[aw (ne b _ q)];exact q
 ·obtain⟨more,q⟩:=I.base.gN b N e;exact⟨more,by rw[aw (ne b _ q)];exact q⟩
 ·rw[aw L];exact I.free
 ·obtain⟨v,o,ho,hd⟩:=I.cell x c e;rw[aw (fun z=>by simp only[z,f] at ho;obtain rfl:=sO ho;rw[j] at hd;contradiction)]
  exact I.d9 x c e
 ·obtain⟨q,n,nl,nf,d⟩:=I.pin p y;exact⟨q,by rw[aw (fun z=>G (bg.mpr ⟨p,y,z⟩))];exact n,nl,nf,d⟩
 ·by_cases z:b=a
  ·subst z;rw[aU] at e;obtain rfl:=sO e;exact⟨⟨l,vs,f,B,j⟩,⟨l,f⟩,fun h1 h2 ⟨o,O,P,Q,R⟩ k=>⟨o,O,k o P,Q,R⟩⟩
  ·rw[aw z] at e;exact (I.ai b u e).fW (fun c w' hc q=>q) (fun c q=>by rw[aw (ne c _ q)];exact q) fun c xs q=>by rw[aw (ne c _ q)];exact q
theorem Inv.EV{h':nS}{tk i:Nat}{n:eA}{v:Option bR}{m:eA->Option bR}(I:Inv X pins σ H s)(O:X.N.Nodup)(P:X.N[i]?=some n)
 (hl:∀(i:Nat) (x:eA) (v:V),X.N[i]?=some x->σ[i]?=some (some v)->cc X.env.scope x->∃u,RelV v u/\Look X.env s.heap m x u)(Q:h'.Ns X.env.locals (fun x=>if x=n then v else m x))(f:VI X.env.locals s.heap h') :
  Inv X pins (σ.set i none) H {s with heap:=h',toks:=tk}:=by
 have gr:=I.gr;obtain⟨_,L,_⟩:=I.loc;obtain⟨oL,_,_,hoL,_⟩:=L;refine⟨I.ok,I.os,I.bare,⟨fun b o e n D F=>?_,fun b o e n D F=>?_,I.base.free,fun b o e F=>?_,I.base.gJ,I.base.gB,I.base.gN⟩,⟨_,Q,fun j y R M B S=>?_⟩,fun y c e=>?_,I.free,I.d9,fun p T=>?_,?_,by simpa using I.len⟩
 ·exact (f.2 b (gs (hI (eS e) I.ok.above))).trans (I.base.keep b o e n D F)
 ·obtain⟨sl,q⟩:=I.base.slot b o e n D F;exact⟨sl,(f.2 b (gs (hI (eS e) I.ok.above))).trans q⟩
 ·obtain⟨U,q⟩:=I.base.there b o e F;exact⟨U,(f.2 b (gs (hI (eS e) I.ok.above))).trans q⟩
 ·by_cases J:j=i
  ·subst J
   by_cases G:j<σ.length
   ·rw[lp G] at B;cases B
   ·rw[YC (by simpa using ZK G)] at B
    exact nO B
  ·rw[kx (Ne.symm J)] at B;obtain⟨u,r,l⟩:=hl j y R M B S;refine⟨u,r,?_⟩
   rcases l with⟨k,q⟩|⟨k,c,q,z⟩
   ·refine .inl ⟨k,?_⟩;have:y≠n:=fun z=>J (vH O M (z ▸ P))
    simp[this,q]
   ·exact .inr ⟨k,c,q,z.sameBut f (gr y c q)⟩
 ·obtain⟨W,z⟩:=I.cell y c e;exact⟨W,z.sameBut f (gr y c e)⟩
 ·obtain⟨e,n,ne,nf,d⟩:=I.pin p T;exact⟨(f.2 p.1 ne).trans e,n,ne,nf,d⟩
 ·refine I.ai.tracked fun b u D q=>(f.2 b fun z=>?_).trans q
  subst z;exact D I.free
abbrev Cx.iU(X:Cx)(v:bR)(E:bR->dr->Prop):Cx:={X with A:=X.A.mark (some v),calm:=false,xe:=E}
theorem Inv.iU{v:bR}{E:bR->dr->Prop}(I:Inv X pins σ H s):Inv (X.iU v E) pins σ H s :=
 ⟨⟨I.ok.mod,I.ok.kind,I.ok.glob,I.ok.blt,I.ok.above,I.ok.inj,I.ok.has,I.ok.km,fun z=>(by contradiction),I.ok.frames,I.ok.ji,I.ok.p9,I.ok.bs,I.ok.iS,I.ok.kG,I.ok.lF,I.ok.gp,I.ok.jM⟩,I.os,I.bare,I.base,I.loc,I.cell,I.free,I.d9,I.pin,I.ai,I.len⟩
theorem Inv.KU{X:Cx}{pins:List (dR×wm)}{σ:St}{H:Hp}{s:dr}{v:bR}{E:bR->dr->Prop}(ok:X.Ok)(I:Inv (X.iU v E) pins σ H s):Inv X pins σ H s :=
 ⟨ok,I.os,I.bare,I.base,I.loc,I.cell,I.free,I.d9,I.pin,I.ai,I.len⟩
abbrev Cx.lC(X:Cx)(pn:List (dR×wm))(E:bR->dr->Prop):Cx:={X with pn:=pn,xe:=E}
theorem Inv.lC{E:bR->dr->Prop}(I:Inv X pins σ H s):Inv (X.lC (X.pn++pins) E) [] σ H s :=
 ⟨⟨I.ok.mod,I.ok.kind,I.ok.glob,I.ok.blt,I.ok.above,I.ok.inj,I.ok.has,I.ok.km,I.ok.hd,I.ok.frames,I.ok.ji,I.ok.p9,I.ok.bs,I.ok.iS,I.ok.kG,I.ok.lF,I.ok.gp,I.ok.jM⟩,I.os,I.bare,I.base,I.loc,I.cell,I.free,I.d9,by simpa using I.pin,I.ai,I.len⟩
theorem Inv.lJ{X:Cx}{pins b:List (dR×wm)}{σ:St}{H:Hp}{s:dr}{E:bR->dr->Prop}(I:Inv (X.lC (X.pn++pins) E) b σ H s):Inv X pins σ H s :=
 ⟨⟨I.ok.mod,I.ok.kind,I.ok.glob,I.ok.blt,I.ok.above,I.ok.inj,I.ok.has,I.ok.km,I.ok.hd,I.ok.frames,I.ok.ji,I.ok.p9,I.ok.bs,I.ok.iS,I.ok.kG,I.ok.lF,I.ok.gp,I.ok.jM⟩,I.os,I.bare,I.base,I.loc,I.cell,I.free,I.d9,fun p c=>I.pin p (ub _ c),I.ai,I.len⟩
theorem SP.lJ{X:Cx}{pins e:List (dR×wm)}{E:bR->dr->Prop}{D:Ends}{f:Flow}{s':dr}(h:SP (X.lC (X.pn++pins) E) e D f s'):SP X pins D f s':=by
 cases f with
 | next=>obtain⟨b,c,I,q⟩:=h;exact⟨b,c,I.lJ,q⟩
 | brk=>obtain⟨b,c,I,q⟩:=h;exact⟨b,c,I.lJ,q⟩
 | cont=>obtain⟨b,c,I,q⟩:=h;exact⟨b,c,I.lJ,q⟩
 | ret u=>obtain⟨v,b,c,I,r,q⟩:=h;exact⟨v,b,c,I.lJ,r,q⟩
def oY(X:Cx)(hs:List Xh)(Q:Flow->dr->Prop):bR->dr->Prop:=fun e f =>
 gW (ib X.prog X.w) X.A (noteFrame e X.env) (fun _ b=>gW (ib X.prog X.w) X.A (setFlight e none) (fun _ c=>gW (ib X.prog X.w) X.A (handleBy e X.env hs) Q X.xe c) X.xe b) X.xe f
def Lm(X:Cx)(hs:List Xh)(b:List (dR×wm)->(bR->dr->Prop)->TS):TS:=fun D σ H=>∀pins,b (X.pn++pins) (oY X hs (SP X pins D)) D σ H
theorem Hy{body:List Uz}{h₀:Xh}{hs:List Xh}{pos:u3}{b:List (dR×wm)->(bR->dr->Prop)->TS}(i:∀pn c,fA (X.lC pn c) body (b pn c)):PS X (.Try body (h₀::hs) [] [] pos) (Lm X (h₀::hs) b):=by
 intro pins s σ H D I h;refine wpAny_Try_except ?_;refine u2 (i (X.pn++pins) (oY X (h₀::hs) (SP X pins D)) [] s σ H D I.lC (h pins)) (fun fl j q=>?_) fun e j q=>q
 have q:=SP.lJ q;cases fl with
 | next =>
  obtain⟨f,k,l,m⟩:=q;exact VP ⟨f,k,l,m⟩
 | brk=>exact q
 | cont=>exact q
 | ret u=>exact q
theorem Pn{x n:eA}{C a:dR}{cls:bR}{i:Nat}{f:Uz}{iU:List Uz}{np M:u3}{D:Ends}{O:TS}(V:X.N.Nodup)(Y:X.N[i]?=some n)(hl:X.env.kindOf n=some .local)(j:X.ex=[])(G:X.stack=X.env::X.outer)(Z:X.env.frame=some X.env.locals)
 (hg:Gl X x)(hm:X.mg x=some (.ref C))(hx:aaB X.K cls (.ref C)=some true)(RB:∀v,fA (X.iU v fun _ _=>False) (f::iU) O)(hq:O {nx:=fun J P=>D.nx (J.set i none) P,rt:=fun _ _=>False} (σ.set i (some (.ref a))) (upd H a (excAt a cls)))
 (hd:bb x:=by decide):lX (X.lC (X.pn++pins) (oY X [.ExceptHandler (some (.Name x np)) (some n) (f::iU) M] (SP X pins D))) σ cls a H:=by
 intro pins' s I0 F0;have I:Inv X pins σ H s:=I0.lJ;have F:Flt (n9 X pins) H X.cE.heap a cls .none s.heap:=F0.weak fun b hb Q=>⟨fun z=>hb (by
  obtain⟨p,hp,e⟩:=bg.mp z;exact bg.mpr ⟨p,ub _ hp,e⟩),Q⟩
 clear I0 F0;show oY X _ _ (.ref a) s;unfold oY;obtain⟨a0,B,k,c,l,tr,nx⟩:=I.sG F j;refine wpAny_looks_onW (base:=B) (L:=X.env.locals) (outer:=X.outer) (by rw[I.ok.frames,G]) Z ⟨k,c,G ▸ l,tr⟩ fun R held up=>?_
 obtain⟨I1,F1⟩:=nx R s.toks _ held.1 held.2.2.2 up;clear nx up held;obtain⟨a0,B,k,c,l,tr,nx⟩:=I1.sG F1 j;refine wpAny_landsW (base:=B) ⟨k,c,l,tr⟩ fun r held up=>?_
 obtain⟨S,F2⟩:=nx r s.toks _ held.1 held.2.2.2 up;clear nx up held;refine wpAny_handleBy_cons (codeAny_handlers_test (nC (X:=X.iU (.ref a) fun _ _=>False) S.iU hg hm ?_ hd)) (by intro q;contradiction)
 have LT:W.Looks (ib X.prog X.w) r (typeOf (.ref a)) cls:=by
  obtain⟨⟨a0,T,oe,oT,vs,O,e1,e2,_⟩,_,_,_⟩:=F2;subst e2;exact (Z9 e1).andThen .now
 refine (W.exm_one S.dZ LT hx).at ?_;refine codeAny_handlers_suite_as ?_;obtain⟨a0,B,k,c,l,tr,nx⟩:=S.sG F2 j;refine lands_againW (base:=B) ⟨k,c,l,tr⟩ fun U held up=>?_
 obtain⟨I3,F3⟩:=nx U s.toks _ held.1 held.2.2.2 up;clear nx up held;have I4:=I3.LZ F3;refine uo (X:=X.iU (.ref a) fun _ _=>False) (i:=i) (v:=.ref a) I4.iU V Y (.inl hl) rfl (fun s' I5=>?_) (.inr hl)
 refine u2 (RB (.ref a) pins s' _ _ _ I5 hq) (fun fl s6 q=>?_) fun _ _ z=>z.elim
 cases fl with
 | next =>
  obtain⟨J,P,y,q6⟩:=q;have y:=y.KU I.ok;obtain⟨m,Q,RG⟩:=id y.loc;refine wpAny_nameGoes_keeps hl Q (by rw[I.ok.kind];rfl) fun h' v RH sb=>?_
  exact⟨_,P,y.EV (v:=v) V Y RG RH sb,q6⟩
 | brk=>obtain⟨_,_,_,q⟩:=q;exact q.elim
 | cont=>obtain⟨_,_,_,q⟩:=q;exact q.elim
 | ret u=>obtain⟨_,_,_,_,_,q⟩:=q;exact q.elim
structure jP (K:fj) (C:dR):Prop where
 ga:Xk K (.ref C) "__getattribute__"=some (some (.builtin "BaseException.__getattribute__"))
 gt:Xk K (.ref C) "__getattr__"=some none
 cl:Xk K (.ref C) "__class__"=some (some (.builtin "object.__class__"))
 be:X5 K C (.type "BaseException")=some true
 ob:X5 K C (.type "object")=some true
 cd:(YR K C).isSome=true
theorem HA{f:bR}{R:Yq->dr->Prop}(X:K.In h)(b:h.get? a=some o)(c:o.cls=.ref C)(k:jP K C)(hq:R (.ok (.ret (.ref C))) ⟨h,g,d,t,os⟩) :
  Wj (ib prog w) A (.call (.builtin "getset_descriptor.__get__") ⟨[.builtin "object.__class__",.ref a,f],[]⟩) R ⟨h,g,d,t,os⟩:=by
 have e:(⟨h,g,d,t,os⟩:dr).TypeIs (.builtin "object.__class__") "getset_descriptor":=WJ;have i:∀{A:n6}{Q:Bool->dr->Prop}{E:bR->dr->Prop},Q true ⟨h,g,d,t,os⟩->gW (ib prog w) A (isSubtype (.ref C) (.type (".".intercalate ("object.__class__".cutAt '.').dropLast))) Q E ⟨h,g,d,t,os⟩:=fun q=>by
  rw[F.owner_object_class];exact (aaQ X k.ob).at q
 refine WZ Yv.plain F.entry_gs_get
  (Yv.check _ _ _ _ _ _ _ _ e (F.args_gs_get _ _ _) ?_)
 repeat (any_goals (first|assumption|(with_reducible refine Vn b ?_;rw[c])|with_reducible refine i ?_|wp_step))
 refine⟨Y2 _ (by decide +kernel),
  Vb F.entry_object_class ?_⟩
 repeat (any_goals (first|assumption|(with_reducible refine Vn b ?_;rw[c])|wp_step))
theorem KJ{tk:Tok}{Q:Fin->dr->Prop}(X:K.In h)(b:h.get? a=some o)(c:o.cls=.ref C)(k:jP K C)(hq:Q (.done (.ret (.ref C))) ⟨h,g,d,t,os⟩) :
  gW (ib prog w) A (Vs.«object.__getattribute__» ⟨[.ref a,.str "__class__" tk],[]⟩) Q E ⟨h,g,d,t,os⟩:=by
 have hT5:(⟨h,g,d,t,os⟩:dr).TypeIs (.builtin "object.__class__") "getset_descriptor":=WJ;have f5:=WJ;have f6:=Yv.lookup;have f7:=F.slot_gs_set.lookup;have e:∀{A:n6}{Q:Option bR->dr->Prop}{E:bR->dr->Prop},Q (some (.builtin "object.__class__")) ⟨h,g,d,t,os⟩->gW (ib prog w) A (V8 (.ref C) "__class__") Q E ⟨h,g,d,t,os⟩:=fun q=>(Yd X k.cl).at q
 repeat (any_goals (first|assumption|(with_reducible refine Vn b ?_;rw[c])|with_reducible refine e ?_|wp_step))
 refine HA X b c k ?_
 repeat (any_goals (first|assumption|wp_step))
theorem Po{M:Model}{b:bR}{Q:Unit->dr->Prop}(X:K.In h)(e:h.get? a=some o)(f:o.cls=.ref C)(k:jP K C)(i:Q () ⟨h,g,d,t,os⟩) :
  gW M A (aax "BaseException.__getattribute__" ⟨[.ref a,b],[]⟩) Q E ⟨h,g,d,t,os⟩:=by
 have j:builtinKind "BaseException.__getattribute__"=some .slot:=by decide +kernel
 have c:splitId "BaseException.__getattribute__"=some ("BaseException","__getattribute__"):=by decide +kernel
 have l:∀{A:n6}{Q:Bool->dr->Prop}{E:bR->dr->Prop},Q true ⟨h,g,d,t,os⟩->gW M A (isSubtype (.ref C) (.type "BaseException")) Q E ⟨h,g,d,t,os⟩:=fun q=>(aaQ X k.be).at q
 have ha:=F.args_bexc_ga (.ref a) b;simp only[aax,j,c];refine cn ?_;unfold isInstance
 repeat (first|(with_reducible refine Vn e ?_;rw[f])|with_reducible refine l ?_|wp_step)
 exact i
theorem Kc{tk:Tok}{fill b:Bool}{Q:bR->dr->Prop}(X:K.In h)(e:h.get? a=some o)(f:o.cls=.ref C)(k:jP K C)(c:Slot "ValueError" "__getattribute__" "BaseException.__getattribute__")(hq:Q (.ref C) ⟨h,g,d,t,os⟩) :
  gW (ib prog w) A (getAttrBy (.ref a) (.str "__class__" tk) fill b) Q E ⟨h,g,d,t,os⟩:=by
 have f3:=c.bind (.ref a);have hx0:(b&&onTheHeap (Vk "BaseException.__getattribute__"))=false:=by cases b<;>rfl
 have i:(Vk "BaseException.__getattribute__" == Vk "object.__getattribute__")=false:=by decide +kernel
 have hx1:(onTheHeap (uy C)&&Vk "BaseException.__getattribute__" == Vk "object.__getattribute__")=false:=by rw[i];rfl
 have l:∀{A:n6}{Q:Option bR->dr->Prop}{E:bR->dr->Prop},Q (some (.builtin "BaseException.__getattribute__")) ⟨h,g,d,t,os⟩->gW (ib prog w) A (V8 (.ref C) "__getattribute__") Q E ⟨h,g,d,t,os⟩:=fun q=>(Yd X k.ga).at q
 have j:∀{A:n6}{Q:Option bR->dr->Prop}{E:bR->dr->Prop},Q none ⟨h,g,d,t,os⟩->gW (ib prog w) A (V8 (.ref C) "__getattr__") Q E ⟨h,g,d,t,os⟩:=fun q=>(Yd X k.gt).at q
 repeat (any_goals (first|assumption|(with_reducible refine Vn e ?_;rw[f])|with_reducible refine l ?_|with_reducible refine j ?_|wp_step))
 refine WZ c.plain F.entry_bexc_ga (Po X e f k (KJ X e f k ?_))
 repeat (any_goals (first|assumption|wp_step))
theorem LB{Q:Option bR->dr->Prop}(X:K.In h)(c:h.get? a=some o)(e:o.cls=.ref C)(k:jP K C)(b:Slot "ValueError" "__getattribute__" "BaseException.__getattribute__")(hq:Q (some (.ref C)) ⟨h,g,d,t+1,os⟩) :
  gW (ib prog w) A (ZG (.ref a) "__class__") Q E ⟨h,g,d,t,os⟩:=by
 unfold ZG getAttrBy?
 repeat (any_goals (first|assumption|with_reducible apply Kc X c e k b|wp_step))
theorem zZ(k:jP K C)(i:Slot "ValueError" "__getattribute__" "BaseException.__getattribute__"):W.KitX K (.ref a) (.ref C) (De a (.ref C)) where
 ty:=fun _ _ _ ⟨o,vs,c,f,_⟩=>f ▸ (Z9 c).andThen .now
 it:=fun M h X _=>by
  obtain⟨cd,b⟩:=LK.mp k.cd;unfold YR at b;split at b
  ·rename_i ho;intro A' Q' E' s' l q;unfold isType loadHead;exact cn (wpAny_loadPart (l _ _ (X _ _ ho)) (eK q))
  ·exact nO b
 ne:=fun h m dd its n sl X j=>by
  obtain⟨cd,b⟩:=LK.mp k.cd;refine W8.mpr fun q=>?_
  have e:C=m:=Value.ref.inj (beq_iff_eq.mp q);subst e;unfold YR at b;split at b
  ·rename_i ho;have z:=(X _ _ ho).symm.trans j;cases z
  ·exact nO b
 ca:=fun {_ _ _ _ _ s} X ⟨o,vs,c,f,_⟩ q=>by
  obtain⟨h,g,d,t,os⟩:=s;exact LB X c f k i q
end
inductive Dat where
 | aB|bl (b:Bool)|int (i:Int)|str (x:eA)
 | tup (xs:List Dat)|lst (xs:List Dat)|bM (ks:List (eA×Dat))
 | exc (C:dR)
 | ins (C:dR×dR) (fs:List (eA×Dat))
 | bW (ns:List Int)
 | adr (p:dR)
 /-- a dict that is gone through: its object stays as it is -/
 | dC (ks:List (eA×Dat))
 /-- a dict whose keys are tuples of texts;fz: gone through,its object stays as it is -/
 | aQ (fz:Bool) (ks:List (List eA×Dat))
mutual
/-- the value v is the datum d,over the heap H (and the module's own objects) -/
def Rep(K:fj)(H:Hp):Dat->V->Prop
 | .aB,v=>v=.aB
 | .bl b,v=>v=.bl b
 | .int i,v=>v=.int i
 | .str x,v=>v=.str x
 | .tup ds,v=>∃p vs,v=.ref p/\aV K H p vs/\ax K H ds vs
 | .lst ds,v=>∃p vs,v=.ref p/\Rd H p (.lst vs)/\ax K H ds vs
 | .bM a,v=>∃p kvs,v=.ref p/\H p=some (.dK kvs)/\bu K H a kvs
 | .exc C,v=>∃p,v=.ref p/\H p=some (excAt p (.ref C))
 | .ins C fs,v=>∃p c vs,v=.ref p/\H p=some (.ins C.1 c vs)/\lY K H fs vs/\p=C.2
 | .bW e,v=>∃p,v=.ref p/\cf K H p (e.map V.int)
 | .adr p,v=>v=.ref p
 | .dC a,v=>∃p o kvs,v=.ref p/\H p=some (.a9 o (.dK kvs))/\bu K H a kvs
 | .aQ f a,v=>∃p o kvs,v=.ref p/\H p=some (if f then .a9 o (.dT kvs) else .dT kvs)/\bO K H a kvs
def ax(K:fj)(H:Hp):List Dat->List V->Prop
 | [],vs=>vs=[]
 | d::ds,vs=>∃v r,vs=v::r/\Rep K H d v/\ax K H ds r
def bu(K:fj)(H:Hp):List (eA×Dat)->List (Key×V)->Prop
 | [],kvs=>kvs=[]
 | (k,d)::a,kvs=>∃v r,kvs=(rp k,v)::r/\Rep K H d v/\bu K H a r
def bO(K:fj)(H:Hp):List (List eA×Dat)->List (List Key×V)->Prop
 | [],kvs=>kvs=[]
 | (k,d)::a,kvs=>∃v r,kvs=(k.map rp,v)::r/\Rep K H d v/\bO K H a r
def lY(K:fj)(H:Hp):List (eA×Dat)->List (eA×V)->Prop
 | [],kvs=>kvs=[]
 | (k,d)::a,kvs=>∃v r,kvs=(k,v)::r/\Rep K H d v/\lY K H a r
end
section
variable{K:fj}{H H':Hp}{H0:Hp×Hp}{Hi:Hp}{ps:Nat->Option dR}{Z:DS}{σ:St}{X:Cx}{e a b c:gi}{pos:u3}{Z':DS}{i:Nat}{r:Res}{v:V}
theorem aV.mono{p:dR}{vs:List V}(s:ag H H')(h:aV K H p vs):aV K H' p vs:=by
 rcases h with (h|⟨o,h⟩)|h
 ·exact .inl (.inl (s _ _ h))
 ·exact .inl (.inr ⟨o,s _ _ h⟩)
 ·exact .inr h
theorem cf.mono{p:dR}{vs:List V}(s:ag H H')(h:cf K H p vs):cf K H' p vs:=by
 rcases h with (h|⟨o,h⟩)|h
 ·exact .inl (.inl (s _ _ h))
 ·exact .inl (.inr ⟨o,s _ _ h⟩)
 ·exact .inr h
theorem Rd.mono{p:dR}{u:HO}(s:ag H H')(h:Rd H p u):Rd H' p u:=by
 rcases h with h|⟨o,h⟩
 ·exact .inl (s _ _ h)
 ·exact .inr ⟨o,s _ _ h⟩
mutual
theorem Rep.mono(s:ag H H'):∀{d:Dat}{v:V},Rep K H d v->Rep K H' d v
 | .aB,_,h=>h
 | .bl _,_,h=>h
 | .int _,_,h=>h
 | .str _,_,h=>h
 | .tup _,_,⟨p,vs,e,q,r⟩=>⟨p,vs,e,aV.mono s q,ax.mono s r⟩
 | .lst _,_,⟨p,vs,e,q,r⟩=>⟨p,vs,e,Rd.mono s q,ax.mono s r⟩
 | .bM _,_,⟨p,kvs,e,q,r⟩=>⟨p,kvs,e,s _ _ q,bu.mono s r⟩
 | .exc _,_,⟨p,e,q⟩=>⟨p,e,s _ _ q⟩
 | .ins _ _,_,⟨p,g,vs,e,q,r,z⟩=>⟨p,g,vs,e,s _ _ q,lY.mono s r,z⟩
 | .bW _,_,⟨p,e,q⟩=>⟨p,e,cf.mono s q⟩
 | .adr _,_,h=>h
 | .dC _,_,⟨p,o,kvs,e,q,r⟩=>⟨p,o,kvs,e,s _ _ q,bu.mono s r⟩
 | .aQ _ _,_,⟨p,o,kvs,e,q,r⟩=>⟨p,o,kvs,e,s _ _ q,bO.mono s r⟩
theorem ax.mono(s:ag H H'):∀{ds:List Dat}{vs:List V},ax K H ds vs->ax K H' ds vs
 | [],_,h=>h
 | _::_,_,⟨v,r,e,q,t⟩=>⟨v,r,e,Rep.mono s q,ax.mono s t⟩
theorem bu.mono(s:ag H H'):∀{f:List (eA×Dat)}{kvs:List (Key×V)},bu K H f kvs->bu K H' f kvs
 | [],_,h=>h
 | (_,_)::_,_,⟨v,r,e,q,t⟩=>⟨v,r,e,Rep.mono s q,bu.mono s t⟩
theorem bO.mono(s:ag H H'):∀{f:List (List eA×Dat)}{kvs:List (List Key×V)},bO K H f kvs->bO K H' f kvs
 | [],_,h=>h
 | (_,_)::_,_,⟨v,r,e,q,t⟩=>⟨v,r,e,Rep.mono s q,bO.mono s t⟩
theorem lY.mono(s:ag H H'):∀{f:List (eA×Dat)}{kvs:List (eA×V)},lY K H f kvs->lY K H' f kvs
 | [],_,h=>h
 | (_,_)::_,_,⟨v,r,e,q,t⟩=>⟨v,r,e,Rep.mono s q,lY.mono s t⟩
end
theorem ax.length:∀{ds:List Dat}{vs:List V},ax K H ds vs->vs.length=ds.length
 | [],_,h=>by rw[show _=[] from h];rfl
 | _::_,_,⟨v,r,e,q,t⟩=>by rw[e,f',f',ax.length t]
theorem ax.append:∀{ds d:List Dat}{vs f:List V},ax K H ds vs->ax K H d f->ax K H (ds++d) (vs++f)
 | [],_,_,_,h,h'=>by rw[show _=[] from h];exact h'
 | _::_,_,_,_,⟨v,r,e,q,t⟩,h'=>⟨v,r++_,by rw[e];rfl,q,ax.append t h'⟩
theorem ax.get:∀{ds:List Dat}{vs:List V}{i:Nat}{d:Dat},ax K H ds vs->ds[i]?=some d->∃v,vs[i]?=some v/\Rep K H d v
 | [],_,_,_,_,e=>by simp at e
 | _::_,_,0,_,⟨v,r,e,q,t⟩,h=>by
  simp at h;subst h;exact⟨v,by rw[e];rfl,q⟩
 | _::_,_,i+1,d,⟨v,r,e,q,t⟩,h=>by
  obtain⟨w,a,b⟩:=ax.get t (h)
  exact⟨w,by rw[e];simpa using a,b⟩
theorem ax.set:∀{ds:List Dat}{vs:List V}{d:Dat}{v:V}(i:Nat),ax K H ds vs->Rep K H d v->ax K H (ds.set i d) (vs.set i v)
 | [],_,_,_,_,h,_=>by rw[show _=[] from h];exact rfl
 | _::_,_,_,_,0,⟨v,r,e,q,t⟩,h=>⟨_,r,by rw[e];rfl,h,t⟩
 | _::_,_,_,_,i+1,⟨v,r,e,q,t⟩,h=>⟨v,r.set i _,by rw[e];rfl,q,ax.set i t h⟩
inductive Slot where
 /-- nothing,data,a list or dict that this frame owns (its content),one that the caller owns and lends -/
 | no|dat (d:Dat)|own (d:Dat)|io (d:Dat)
abbrev DS:=List Slot
inductive Res where
 | dat (d:Dat)|own (d:Dat)
noncomputable def Res.val:Res->Dat
 | .dat d=>d
 | .own d=>d
def cx(K:fj)(H Hi:Hp)(p:dR):Dat->Prop
 | .lst ds=>∃vs,H p=some (.lst vs)/\ax K Hi ds vs/\Hi p=none
 | .bM d=>∃kvs,H p=some (.dK kvs)/\bu K Hi d kvs/\Hi p=none
 | .aQ f d=>f=false/\∃kvs,H p=some (.dT kvs)/\bO K Hi d kvs/\Hi p=none
 | _=>False
def gg(Hi H:Hp)(p:dR)(o:HO):Prop:=Hi p=some o\/H p=none\/∃vs,o=.tup vs
def gm(ps:Nat->Option dR)(p:dR):Prop:=∃i,ps i=some p
structure SR (K:fj) (H0:Hp×Hp) (ps:Nat->Option dR) (Z:DS) (σ:St) (H Hi:Hp):Prop where
 sub:ag Hi H
 keep:∀b o,H0.1 b=some o->¬gm ps b->H b=some o
 fw:∀p,gm ps p->H p≠none
 dat:∀(i:Nat) (d:Dat),Z[i]?=some (.dat d)->∃v,σ[i]?=some (some v)/\Rep K Hi d v
 own:∀(i:Nat) (c:Dat),Z[i]?=some (.own c)->∃p,σ[i]?=some (some (.ref p))/\cx K H Hi p c/\¬gm ps p/\H0.1 p=none
 io:∀(i:Nat) (c:Dat),Z[i]?=some (.io c)->∃p,σ[i]?=some (some (.ref p))/\cx K H Hi p c/\ps i=some p
 ne:∀(i j:Nat) (c c':Dat) (p:dR),(Z[i]?=some (.own c)\/Z[i]?=some (.io c))->(Z[j]?=some (.own c')\/Z[j]?=some (.io c'))->σ[i]?=some (some (.ref p))->σ[j]?=some (some (.ref p))->i=j
 len:Z.length=σ.length
 nw:∀p o,Hi p=some o->gg H0.2 H0.1 p o
def RR(K:fj)(H0:Hp×Hp)(ps:Nat->Option dR)(Z:DS)(σ:St)(H Hi:Hp)(v:V):Res->Prop
 | .dat d=>Rep K Hi d v
 | .own c=>∃p,v=.ref p/\cx K H Hi p c/\¬gm ps p/\H0.1 p=none/\∀(i:Nat) (f:Dat),(Z[i]?=some (.own f)\/Z[i]?=some (.io f))->σ[i]?≠some (some (.ref p))
theorem cx.some{p:dR}{c:Dat}(h:cx K H Hi p c):(∃o,H p=some o)/\Hi p=none:=by
 cases c with
 | lst ds=>obtain⟨vs,e,_,n⟩:=h;exact⟨⟨_,e⟩,n⟩
 | bM d=>obtain⟨vs,e,_,n⟩:=h;exact⟨⟨_,e⟩,n⟩
 | aQ fz d=>obtain⟨_,vs,e,_,n⟩:=h;exact⟨⟨_,e⟩,n⟩
 | _=>exact h.elim
theorem cx.nt{p:dR}{c:Dat}{vs:List V}(h:cx K H Hi p c)(e:H p=Option.some (.tup vs)):False:=by
 cases c with
 | lst ds=>obtain⟨vs,q,_⟩:=h;rw[q] at e;cases e
 | bM d=>obtain⟨vs,q,_⟩:=h;rw[q] at e;cases e
 | aQ fz d=>obtain⟨_,vs,q,_⟩:=h;rw[q] at e;cases e
 | _=>exact h.elim
theorem cx.keeps{H' d:Hp}{p:dR}{c:Dat}(h:cx K H Hi p c)(e:H' p=H p)(s:ag Hi d)(n:d p=none):cx K H' d p c:=by
 cases c with
 | lst ds=>obtain⟨vs,q,r,_⟩:=h;exact⟨vs,e.trans q,ax.mono s r,n⟩
 | bM f=>obtain⟨vs,q,r,_⟩:=h;exact⟨vs,e.trans q,bu.mono s r,n⟩
 | aQ fz f=>obtain⟨z,vs,q,r,_⟩:=h;exact⟨z,vs,e.trans q,bO.mono s r,n⟩
 | _=>exact h.elim
theorem i7{H:Hp}{p:dR}{o:HO}(h:H p=none):ag H (upd H p o):=fun b u e=>by
 rw[aw (dh e h)];exact e
theorem uU{Hi H:Hp}{p:dR}{o:HO}(s:ag Hi H):ag (upd Hi p o) (upd H p o):=fun b u e=>by
 by_cases d:b=p
 ·subst d;rw[aU] at e ⊢;exact e
 ·rw[aw d] at e ⊢;exact s b u e
theorem Bz{Hi H:Hp}{p:dR}{o:HO}(s:ag Hi H)(h:H p=some o):ag (upd Hi p o) H:=fun b u e=>by
 by_cases d:b=p
 ·subst d;rw[aU] at e;exact h.trans e
 ·rw[aw d] at e;exact s b u e
theorem rM{Hi H:Hp}{p:dR}{o:HO}(s:ag Hi H)(h:Hi p=none):ag Hi (upd H p o):=fun b u e=>by
 rw[aw (dh e h)];exact s b u e
theorem SR.dj(S:SR K H0 ps Z σ H Hi){p:dR}(h:H p=none):Hi p=none:=by
 cases e:Hi p with
 | none=>rfl
 | some o=>rw[S.sub _ _ e] at h;contradiction
theorem SR.bI(S:SR K H0 ps Z σ H Hi){p:dR}(h:H p=none):H0.1 p=none/\¬gm ps p:=by
 have d:¬gm ps p:=fun m=>S.fw p m h
 refine⟨?_,d⟩;cases e:H0.1 p with
 | none=>rfl
 | some o=>rw[S.keep _ _ e d] at h;contradiction
theorem SR.laid(S:SR K H0 ps Z σ H Hi){p:dR}{o:HO}(h:H p=none):SR K H0 ps Z σ (upd H p o) (upd Hi p o)/\ag Hi (upd Hi p o):=by
 have j:=S.dj h;have sm:ag Hi (upd Hi p o):=i7 j;have ne:∀{q:dR}{c:Dat},cx K H Hi q c->q≠p:=fun f=>dh f.some.1.choose_spec h
 refine⟨⟨uU S.sub,fun b u e n=>?_,fun q m=>?_,fun i d e=>?_,fun i c e=>?_,fun i c e=>?_,S.ne,S.len,fun q u e=>?_⟩,sm⟩
 ·rw[aw (dh (S.keep b u e n) h)];exact S.keep b u e n
 ·by_cases f:q=p
  ·subst f;rw[aU];simp
  ·rw[aw f];exact S.fw q m
 ·obtain⟨v,a,b⟩:=S.dat i d e;exact⟨v,a,Rep.mono sm b⟩
 ·obtain⟨q,a,b,g,k⟩:=S.own i c e;exact⟨q,a,b.keeps (aw (ne b)) sm (by rw[aw (ne b)];exact b.some.2),g,k⟩
 ·obtain⟨q,a,b,g⟩:=S.io i c e;exact⟨q,a,b.keeps (aw (ne b)) sm (by rw[aw (ne b)];exact b.some.2),g⟩
 ·by_cases f:q=p
  ·subst f;exact .inr (.inl (S.bI h).1)
  ·rw[aw f] at e;exact S.nw q u e
theorem SR.made(S:SR K H0 ps Z σ H Hi){p:dR}{o:HO}(h:H p=none):SR K H0 ps Z σ (upd H p o) Hi:=by
 have g:=S.dj h;have ne:∀{q:dR}{c:Dat},cx K H Hi q c->q≠p:=fun d=>dh d.some.1.choose_spec h
 refine⟨rM S.sub g,fun b u e n=>?_,fun q m=>?_,S.dat,fun i c e=>?_,fun i c e=>?_,S.ne,S.len,S.nw⟩
 ·rw[aw (dh (S.keep b u e n) h)];exact S.keep b u e n
 ·by_cases d:q=p
  ·subst d;rw[aU];simp
  ·rw[aw d];exact S.fw q m
 ·obtain⟨q,a,b,f,j⟩:=S.own i c e;exact⟨q,a,b.keeps (aw (ne b)) (ag.refl _) b.some.2,f,j⟩
 ·obtain⟨q,a,b,f⟩:=S.io i c e;exact⟨q,a,b.keeps (aw (ne b)) (ag.refl _) b.some.2,f⟩
theorem SR.dP(S:SR K H0 ps Z σ H Hi){p:dR}(h:H p=none):∀(i:Nat) (d:Dat),(Z[i]?=some (.own d)\/Z[i]?=some (.io d))->σ[i]?≠some (some (.ref p)):=by
 rintro i d (e|e) z
 ·obtain⟨q,a,b,_⟩:=S.own i d e;rw[a] at z;cases z;rw[b.some.1.choose_spec] at h;cases h
 ·obtain⟨q,a,b,_⟩:=S.io i d e;rw[a] at z;cases z;rw[b.some.1.choose_spec] at h;cases h
theorem SR.freeze(S:SR K H0 ps Z σ H Hi){v:V}{r:Res}(h:RR K H0 ps Z σ H Hi v r):∃f,SR K H0 ps Z σ H f/\ag Hi f/\Rep K f r.val v:=by
 cases r with
 | dat d=>exact⟨Hi,S,ag.refl _,h⟩
 | own c =>
  obtain⟨p,rfl,ho,np,s,nd⟩:=h;have go:∀o,H p=some o->(∃f,f=upd Hi p o/\SR K H0 ps Z σ H f/\ag Hi f):=fun o e=>by
   have t:=ho.some.2;have sm:ag Hi (upd Hi p o):=i7 t;refine⟨_,rfl,⟨Bz S.sub e,S.keep,S.fw,fun i d g=>?_,fun i k g=>?_,fun i k g=>?_,S.ne,S.len,fun q u g=>?_⟩,sm⟩
   ·obtain⟨v,a,b⟩:=S.dat i d g;exact⟨v,a,Rep.mono sm b⟩
   ·obtain⟨q,a,b,m,w⟩:=S.own i k g;have j:q≠p:=fun z=>nd i k (.inl g) (by rw[a,z])
    exact⟨q,a,b.keeps rfl sm (by rw[aw j];exact b.some.2),m,w⟩
   ·obtain⟨q,a,b,m⟩:=S.io i k g;have j:q≠p:=fun z=>nd i k (.inr g) (by rw[a,z])
    exact⟨q,a,b.keeps rfl sm (by rw[aw j];exact b.some.2),m⟩
   ·by_cases j:q=p
    ·subst j;exact .inr (.inl s)
    ·rw[aw j] at g;exact S.nw q u g
  cases c with
  | lst ds =>
   obtain⟨vs,e,r,n⟩:=ho;obtain⟨f,rfl,l,sm⟩:=go _ e;exact⟨_,l,sm,p,vs,rfl,Rd.of aU,ax.mono sm r⟩
  | bM x =>
   obtain⟨vs,e,r,n⟩:=ho;obtain⟨f,rfl,l,sm⟩:=go _ e;exact⟨_,l,sm,p,vs,rfl,aU,bu.mono sm r⟩
  | aQ fz x =>
   obtain⟨rfl,vs,e,r,n⟩:=ho;obtain⟨f,rfl,l,sm⟩:=go _ e;exact⟨_,l,sm,p,{cls:=.none,data:=.fields #[]},vs,rfl,aU,bO.mono sm r⟩
  | _=>exact ho.elim
abbrev EF:=DS->Option (Res×DS)
abbrev DF:=DS->Option (Dat×DS)
abbrev BF:=DS->Option (Bool×DS)
abbrev AF:=DS->Option (List Dat×DS)
def LX(K:fj)(H0:Hp×Hp)(ps:Nat->Option dR)(σ:St)(Hi:Hp)(Q:VK)(r:Res)(Z':DS):Prop:=∀v H' d,SR K H0 ps Z' σ H' d->ag Hi d->RR K H0 ps Z' σ H' d v r->Q v H'
def KC(K:fj)(H0:Hp×Hp)(ps:Nat->Option dR)(σ:St)(Hi:Hp)(Q:VK)(d:Dat)(Z':DS):Prop:=∀v H' f,SR K H0 ps Z' σ H' f->ag Hi f->Rep K f d v->Q v H'
def xi(K:fj)(H0:Hp×Hp)(ps:Nat->Option dR)(σ:St)(Hi:Hp)(Q:Hp->Prop)(Z':DS):Prop:=∀H' d,SR K H0 ps Z' σ H' d->ag Hi d->Q H'
def My(K:fj)(H0:Hp×Hp)(ps:Nat->Option dR)(σ:St)(Hi:Hp)(Q:List V->Hp->Prop)(ds:List Dat)(Z':DS):Prop:=∀vs H' d,SR K H0 ps Z' σ H' d->ag Hi d->ax K d ds vs->Q vs H'
def IS(X:Cx)(f:EF)(t:TE):Prop:=∀(H0:Hp×Hp) (ps:Nat->Option dR) (Z:DS) (σ:St) (H Hi:Hp) (r:Res) (Z':DS) (Q:VK),f Z=some (r,Z')->SR X.K H0 ps Z σ H Hi ->
 LX X.K H0 ps σ Hi Q r Z'->t σ H Q
inductive DE (X:Cx) (e:gi) (f:EF):Prop
 | mk (t:TE) (p:PE X e t) (q:IS X f t)
def Kd(X:Cx)(f:DF)(t:TE):Prop:=∀(H0:Hp×Hp) (ps:Nat->Option dR) (Z:DS) (σ:St) (H Hi:Hp) (d:Dat) (Z':DS) (Q:VK),f Z=some (d,Z')->SR X.K H0 ps Z σ H Hi ->
 KC X.K H0 ps σ Hi Q d Z'->t σ H Q
inductive DD (X:Cx) (e:gi) (f:DF):Prop
 | mk (t:TE) (p:PE X e t) (q:Kd X f t)
def HZ(X:Cx)(f:BF)(t:TT):Prop:=∀(H0:Hp×Hp) (ps:Nat->Option dR) (Z:DS) (σ:St) (H Hi:Hp) (b:Bool) (Z':DS) (Q:Bool->Hp->Prop),f Z=some (b,Z')->SR X.K H0 ps Z σ H Hi ->
 xi X.K H0 ps σ Hi (Q b) Z'->t σ H Q
inductive DT (X:Cx) (e:gi) (f:BF):Prop
 | mk (t:TT) (p:PT X e t) (q:HZ X f t)
def Fy(X:Cx)(f:BF)(t:TT):Prop:=∀(H0:Hp×Hp) (ps:Nat->Option dR) (Z:DS) (σ:St) (H Hi:Hp) (b:Bool) (Z':DS) (Q:Bool->Hp->Prop),f Z=some (b,Z')->SR X.K H0 ps Z σ H Hi ->
 xi X.K H0 ps σ Hi (Q b) Z'->t σ H Q
inductive DW (X:Cx) (e:gi) (f:BF):Prop
 | mk (t:TT) (p:PW X e t) (q:Fy X f t)
def K9(X:Cx)(f:AF)(t:TA):Prop:=∀(H0:Hp×Hp) (ps:Nat->Option dR) (Z:DS) (σ:St) (H Hi:Hp) (ds:List Dat) (Z':DS) (Q:List V->Hp->Prop),f Z=some (ds,Z')->SR X.K H0 ps Z σ H Hi ->
 My X.K H0 ps σ Hi Q ds Z'->t σ H Q
inductive DA (X:Cx) (es:List gi) (f:AF):Prop
 | mk (t:TA) (p:PA X es t) (q:K9 X f t)
def dG(f:EF):DF:=fun Z=>(f Z).map fun p=>(p.1.val,p.2)
noncomputable def rL(f:DF):EF:=fun Z=>(f Z).map fun p=>(.dat p.1,p.2)
theorem DW.dt{f:BF}(h:DW X e f):DT X e f:=let ⟨t,p,q⟩:=h;⟨t,p.pt,q⟩
theorem DE.dd{f:EF}(h:DE X e f):DD X e (dG f):=by
 obtain⟨t,p,q⟩:=h;refine⟨t,p,fun H0 ps Z σ H Hi d Z' Q g S k=>?_⟩
 obtain⟨r,Z1,m,g⟩:=oN g;obtain⟨rfl,rfl⟩:=sP g;refine q H0 ps Z σ H Hi r Z1 Q m S fun v H' Hi' n s' o=>?_
 obtain⟨j,s,u,l⟩:=n.freeze o;exact k v H' j s (s'.trans u) l
theorem DD.de{f:DF}(h:DD X e f):DE X e (rL f):=by
 obtain⟨t,p,q⟩:=h;refine⟨t,p,fun H0 ps Z σ H Hi r Z' Q g S k=>?_⟩
 obtain⟨d,Z1,m,g⟩:=oN g;obtain⟨rfl,rfl⟩:=sP g;exact q H0 ps Z σ H Hi d Z1 Q m S fun v H' j n s' l=>k v H' j n s' l
noncomputable def fC(d:Dat):DF:=fun Z=>some (d,Z)
theorem o8{v:V}{d:Dat}(h:PE X e (tC v))(r:∀H,Rep X.K H d v):DD X e (fC d) :=
 ⟨_,h,fun H0 ps Z σ H Hi d' Z' Q f S k=>by obtain⟨rfl,rfl⟩:=sP f;exact k v H Hi S (ag.refl _) (r _)⟩
theorem IU{i j}:DD X (.Constant (.int i) j pos) (fC (.int i)):=o8 Ci fun _=>rfl
theorem EJ{i j}:DD X (.Constant (.bool i) j pos) (fC (.bl i)):=o8 C6 fun _=>rfl
theorem Bu{j}:DD X (.Constant .none j pos) (fC .aB):=o8 AE fun _=>rfl
theorem EA{x j}:DD X (.Constant (.str x) j pos) (fC (.str x)):=o8 A5 fun _=>rfl
structure Glob (X:Cx) (x:eA) (d:Dat):Prop where
 gl:Gl X x
 is:∃v u,X.mg x=some u/\RelV v u/\∀H,Rep X.K H d v
theorem LR{x:eA}{d:Dat}(h:Glob X x d)(hd:bb x:=by decide):DD X (.Name x pos) (fC d):=by
 obtain⟨v,u,f,g,j⟩:=h.is;exact o8 (js h.gl f g hd) j
noncomputable def cC(i:Nat):DF:=fun Z=>match Z[i]? with
 | some (.dat d)=>some (d,Z)
 | some (.own c)=>some (c,Z.set i (.dat c))
 | _=>none
theorem SR.D7{K:fj}{H0:Hp×Hp}{H Hi:Hp}{ps:Nat->Option dR}{Z:DS}{σ:St}{i:Nat}{c:Dat}(S:SR K H0 ps Z σ H Hi)(e:Z[i]?=some (.own c)) :
  ∃l v,σ[i]?=some (some v)/\SR K H0 ps (Z.set i (.dat c)) σ H l/\ag Hi l/\Rep K l c v:=by
 obtain⟨p,u,ho,B,C⟩:=S.own i c e;have n:=(bt.mp e).1;have D:SR K H0 ps (Z.set i .no) σ H Hi:=by
  have get:∀{j:Nat}{s:Slot},(Z.set i .no)[j]?=some s->s≠.no->j≠i/\Z[j]?=some s:=fun {j s} h x=>by
   by_cases f:j=i
   ·subst f;rw[lp n] at h;obtain rfl:=sO h;exact absurd rfl x
   ·rw[kx (Ne.symm f)] at h;exact⟨f,h⟩
  refine⟨S.sub,S.keep,S.fw,fun j d h=>S.dat j d (get h (by simp)).2,fun j g h=>S.own j g (get h (by simp)).2,fun j g h=>S.io j g (get h (by simp)).2,fun j k g o q y A=>?_,by rw[zb];exact S.len,S.nw⟩
  exact S.ne j k g o q (y.imp (fun z=>(get z (by simp)).2) fun z=>(get z (by simp)).2) (A.imp (fun z=>(get z (by simp)).2) fun z=>(get z (by simp)).2)
 have r:RR K H0 ps (Z.set i .no) σ H Hi (.ref p) (.own c):=by
  refine⟨p,rfl,ho,B,C,fun j g h z=>?_⟩
  have f:j≠i:=fun w=>by
   subst w;rw[lp n] at h
   rcases h with h|h<;>cases h
  rw[kx (Ne.symm f)] at h;exact f (S.ne j i g c p h (.inl e) z u)
 obtain⟨l,m,E,t⟩:=D.freeze r;refine⟨l,.ref p,u,⟨m.sub,m.keep,m.fw,fun j d h=>?_,fun j g h=>?_,fun j g h=>?_,fun j k g o q y A F G=>?_,by rw[zb];exact S.len,m.nw⟩,E,t⟩
 ·by_cases f:j=i
  ·subst f;rw[lp n] at h;cases h;exact⟨_,u,t⟩
  ·rw[kx (Ne.symm f)] at h;exact m.dat j d (by rw[kx (Ne.symm f)];exact h)
 all_goals
  have back:∀{j:Nat}{s:Slot},(Z.set i (.dat c))[j]?=some s->(∀d,s≠.dat d)->(Z.set i .no)[j]?=some s:=fun {j s} h x=>by
   by_cases f:j=i
   ·subst f;rw[lp n] at h;obtain rfl:=sO h;exact absurd rfl (x c)
   ·rw[kx (Ne.symm f)] at h ⊢;exact h
 ·exact m.own j g (back h (by intro d;simp))
 ·exact m.io j g (back h (by intro d;simp))
 ·exact m.ne j k g o q (y.imp (fun z=>back z (by intro d;simp)) fun z=>back z (by intro d;simp)) (A.imp (fun z=>back z (by intro d;simp)) fun z=>back z (by intro d;simp)) F G
theorem Ku{x:eA}(i:Nat)(m:X.N[i]?=some x)(n:cc X.env.scope x)(hd:bb x:=by decide)(j:cH x:=by decide):DD X (.Name x pos) (cC i):=by
 refine⟨_,fg m n hd j,fun H0 ps Z σ H Hi d Z' Q f S k=>?_⟩
 unfold cC at f;split at f
 ·rename_i d0 g;cases f;obtain⟨v,h,r⟩:=S.dat i d g;exact⟨v,h,k v H Hi S (ag.refl _) r⟩
 ·rename_i c0 g;obtain⟨rfl,rfl⟩:=sP f;obtain⟨l,v,h,o,s',r⟩:=S.D7 g;exact⟨v,h,k v H l o s' r⟩
 ·exact nO f
noncomputable def vc(i:Nat):EF:=fun Z=>match Z[i]? with
 | some (.dat d)=>some (.dat d,Z)
 | some (.own c)=>some (.own c,Z.set i .no)
 | _=>none
theorem HF{x:eA}(i:Nat)(w:X.N[i]?=some x)(y:cc X.env.scope x)(hd:bb x:=by decide)(o:cH x:=by decide):DE X (.Name x pos) (vc i):=by
 refine⟨_,fg w y hd o,fun H0 ps Z σ H Hi r Z' Q g S k=>?_⟩
 unfold vc at g;split at g
 ·rename_i A l;obtain⟨rfl,rfl⟩:=sP g;obtain⟨v,m,r⟩:=S.dat i A l;exact⟨v,m,k v H Hi S (ag.refl _) r⟩
 ·rename_i c0 l;obtain⟨rfl,rfl⟩:=sP g;obtain⟨p,m,ho,B,C⟩:=S.own i c0 l;have t:=(bt.mp l).1;have get:∀{j:Nat}{s:Slot},(Z.set i .no)[j]?=some s->s≠.no->j≠i/\Z[j]?=some s:=fun {j s} h D=>by
   by_cases n:j=i
   ·subst n;rw[lp t] at h;obtain rfl:=sO h;exact absurd rfl D
   ·rw[kx (Ne.symm n)] at h;exact⟨n,h⟩
  refine⟨.ref p,m,k (.ref p) H Hi ⟨S.sub,S.keep,S.fw,fun j d h=>S.dat j d (get h (by simp)).2,fun j f h=>S.own j f (get h (by simp)).2,fun j f h=>S.io j f (get h (by simp)).2,fun j k f u q E F=>?_,by rw[zb];exact S.len,S.nw⟩ (ag.refl _) ⟨p,rfl,ho,B,C,fun j f h z=>?_⟩⟩
  ·exact S.ne j k f u q (E.imp (fun z=>(get z (by simp)).2) fun z=>(get z (by simp)).2) (F.imp (fun z=>(get z (by simp)).2) fun z=>(get z (by simp)).2)
  ·have h':j≠i/\(Z[j]?=some (.own f)\/Z[j]?=some (.io f)):=by
    rcases h with h|h
    ·exact⟨(get h (by simp)).1,.inl (get h (by simp)).2⟩
    ·exact⟨(get h (by simp)).1,.inr (get h (by simp)).2⟩
   exact h'.1 (S.ne j i f c0 p h'.2 (.inl l) z m)
 ·exact nO g
noncomputable def cw(op:Dat->Dat->Option Res)(f g:DF):EF:=fun Z=>(f Z).bind fun p=>(g p.2).bind fun q=>(op p.1 q.1).map fun r=>(r,q.2)
def eF(X:Cx)(r:R2)(op:Dat->Dat->Option Res):Prop:=∀(H0:Hp×Hp) (ps:Nat->Option dR) (Z:DS) (σ:St) (H Hi:Hp) (x y:V) (d d':Dat) (o:Res) (Q:VK),op d d'=some o->SR X.K H0 ps Z σ H Hi->Rep X.K Hi d x->Rep X.K Hi d' y ->
 (∀v H' f,SR X.K H0 ps Z σ H' f->ag Hi f->RR X.K H0 ps Z σ H' f v o->Q v H')->r x y H Q
theorem vL{r:R2}{op:Dat->Dat->Option Res}{f g:DF}{l m:TE}(ho:eF X r op)
 (t:∀(H0:Hp×Hp) (ps:Nat->Option dR) (Z:DS) (σ:St) (H Hi:Hp) (d:Dat) (Z':DS) (Q:VK),f Z=some (d,Z')->SR X.K H0 ps Z σ H Hi->(∀v H' h,SR X.K H0 ps Z' σ H' h->ag Hi h->Rep X.K h d v->Q v H')->l σ H Q)
 (u:∀(H0:Hp×Hp) (ps:Nat->Option dR) (Z:DS) (σ:St) (H Hi:Hp) (d:Dat) (Z':DS) (Q:VK),g Z=some (d,Z')->SR X.K H0 ps Z σ H Hi->(∀v H' h,SR X.K H0 ps Z' σ H' h->ag Hi h->Rep X.K h d v->Q v H')->m σ H Q)
 (H0:Hp×Hp)(ps:Nat->Option dR)(Z:DS)(σ:St)(H Hi:Hp)(o:Res)(Z':DS)(Q:VK)(j:cw op f g Z=some (o,Z'))(S:SR X.K H0 ps Z σ H Hi)
 (k:∀v H' h,SR X.K H0 ps Z' σ H' h->ag Hi h->RR X.K H0 ps Z' σ H' h v o->Q v H'):nh r l m σ H Q:=by
 obtain⟨d,Z1,w,j⟩:=oB j;obtain⟨d',Z2,z,j⟩:=oB j;obtain⟨o',A,j⟩:=oM j;obtain⟨rfl,rfl⟩:=sP j;refine t H0 ps Z σ H Hi d Z1 _ w S fun x B n C D E=>?_
 refine u H0 ps Z1 σ B n d' _ _ z C fun y F p G q I=>?_
 exact ho H0 ps _ σ F p x y d d' _ Q A G (Rep.mono q E) I fun v J s L s3 M=>k v J s L ((D.trans q).trans s3) M
theorem kO{op:Operator}{r:R2}{d:Dat->Dat->Option Res}{f g:DF}(h:aI X (L1 op) r)(ho:eF X r d)(j:DD X a f)(k:DD X b g):DE X (.BinOp a op b pos) (cw d f g):=by
 obtain⟨ta,l,m⟩:=j;obtain⟨tb,n,o⟩:=k;exact⟨_,Kz h l n,vL ho m o⟩
theorem oP{op:X7}{r:R2}{d:Dat->Dat->Option Res}{f g:DF}(h:aI X (k7 op) r)(ho:eF X r d)(j:DD X a f)(k:DD X b g)(hm:sW op b=false):DE X (.Compare a [op] [b] pos) (cw d f g):=by
 obtain⟨ta,l,m⟩:=j;obtain⟨tb,n,o⟩:=k;exact⟨_,CC h l n hm,vL ho m o⟩
def Be:R2:=fun x y H Q=>∃l b xs d,x=.ref l/\y=.ref b/\Rd H l (.lst xs)/\Rd H b (.lst d)/\xs.length+d.length<=dk/\∀p,H p=none->Q (.ref p) (upd H p (.lst (xs++d)))
theorem FU:aI X (L1 .Add) Be:=by
 intro pins s σ H x y v u Q I g j h;obtain⟨l,b,xs,zs,rfl,rfl,k,m,hz,q⟩:=h;subst g;subst j;obtain⟨z,its,n,r,e⟩:=k.ok I.ai;obtain⟨z2,d,n2,f,o⟩:=m.ok I.ai;have hl:=r.length;have hl2:=f.length;refine PySem.P.add_list e o ?_ (by rw[eT,eT];lia)
 have p:its.toArray++d.toArray=(its++d).toArray:=by simp
 rw[p];exact⟨.ref _,_,I.ud (r.append f) (by rw[eH];omega),rfl,q _ I.fresh⟩
def zE(K:fj):R2:=fun x y H Q=>∃l b xs d,x=.ref l/\y=.ref b/\cf K H l xs/\Rd H b (.lst d)/\xs.length+d.length<=dk/\∀p,H p=none->Q (.ref p) (upd H p (.lst (xs++d)))
theorem O0:aI X (L1 .Add) (zE X.K):=by
 intro pins s σ H x y v u Q I k m h;obtain⟨l,b,xs,zs,rfl,rfl,o,p,hz,q⟩:=h;subst k;subst m;obtain⟨its,r,⟨⟨cls,dd,data,sl⟩,n,ho,f,hd,hs⟩,z⟩:=I.list o;subst f hd hs;obtain⟨z2,d,t,g,j⟩:=p.ok I.ai;have hl:=r.length;have hl2:=g.length;refine Zg ⟨_,ho,rfl⟩ ⟨_,j,rfl⟩ noFill_list_add seq_list_add PySem.F.slot_list_add PySem.F.entry_list_add (PySem.F.args_list_add_2 _ _) (list_addW l b its.toArray d.toArray n t none none sl #[] (by rw[eT,eT];lia)) ⟨ho,j,?_⟩
 have w:its.toArray++d.toArray=(its++d).toArray:=by simp
 rw[w];exact⟨.ref _,_,I.ud (r.append g) (by rw[eH];omega),rfl,q _ I.fresh⟩
def Hf(i j:Int):Prop:=0<j/\j.natAbs.log2<9000
theorem M8:aI X (L1 .FloorDiv) (rI Hf fun i j=>.int (i/j)):=sA fun i j _ _ _ _ _ d q=>by
 have h1:=d.1;exact floordiv_int (by lia) (by rw[Int.fdiv_eq_ediv_of_nonneg i (by lia)];exact q) (.inl (PyProof.noPylong_of_log2 d.2))
theorem ax.ints{K:fj}{H:Hp}:∀(d:List Int),ax K H (d.map Dat.int) (d.map V.int)
 | []=>rfl
 | n::d=>⟨_,_,rfl,rfl,ax.ints d⟩
noncomputable def fK:Dat->Dat->Option Res
 | .int i,.int j=>some (.dat (.int (i+j)))
 | .str x,.str y=>if x.length+y.length<=dk then some (.dat (.str (x++y))) else none
 | .lst xs,.lst ys=>if xs.length+ys.length<=dk then some (.own (.lst (xs++ys))) else none
 | .bW xs,.lst ys=>if xs.length+ys.length<=dk then some (.own (.lst (xs.map Dat.int++ys))) else none
 | .tup (x::xs),.tup (y::ys)=>if (x::xs).length+(y::ys).length<=dk then some (.dat (.tup ((x::xs)++(y::ys)))) else none
 | _,_=>none
def AU(K:fj):R2:=fun x y H Q=>gX (fun i j=>.int (i+j)) x y H Q\/(fun x y H Q=>(fun x y H Q=>∃i j,x=.str i/\y=.str j/\i.length+j.length<=dk/\Q (.str (i++j)) H) x y H Q\/(fun x y H Q=>Be x y H Q\/(fun x y H Q=>zE K x y H Q\/DP K x y H Q) x y H Q) x y H Q) x y H Q
theorem Rh:aI X (L1 .Add) (AU X.K):=aI.or Lp (aI.or E2 (aI.or FU (aI.or O0 E8)))
theorem P9:eF X (AU X.K) fK:=by
 intro H0 ps Z σ H Hi x y d d' o Q e S l m k;delta fK at e;split at e
 ·obtain rfl:=sO e;subst l;subst m;exact .inl ⟨_,_,rfl,rfl,k _ H Hi S (ag.refl _) rfl⟩
 ·split at e
  ·rename_i h;obtain rfl:=sO e;subst l;subst m;exact .inr (.inl ⟨_,_,rfl,rfl,h,k _ H Hi S (ag.refl _) rfl⟩)
  ·exact nO e
 ·split at e
  ·rename_i h;obtain rfl:=sO e;obtain⟨p,vs,rfl,n,s⟩:=l;obtain⟨t,j,rfl,u,g⟩:=m;refine .inr (.inr (.inl ⟨p,t,vs,j,rfl,rfl,Rd.mono S.sub n,Rd.mono S.sub u,by rw[s.length,g.length];exact h,fun q f=>?_⟩))
   exact k (.ref q) _ Hi (S.made f) (ag.refl _) ⟨q,rfl,⟨_,aU,ax.append s g,S.dj f⟩,(S.bI f).2,(S.bI f).1,S.dP f⟩
  ·exact nO e
 ·split at e
  ·rename_i h;obtain rfl:=sO e;obtain⟨p,rfl,n⟩:=l;obtain⟨t,j,rfl,u,g⟩:=m;refine .inr (.inr (.inr (.inl ⟨p,t,_,j,rfl,rfl,cf.mono S.sub n,Rd.mono S.sub u,by rw[a7,g.length];exact h,fun q f=>?_⟩)))
   exact k (.ref q) _ Hi (S.made f) (ag.refl _) ⟨q,rfl,⟨_,aU,ax.append (ax.ints _) g,S.dj f⟩,(S.bI f).2,(S.bI f).1,S.dP f⟩
  ·exact nO e
 ·split at e
  ·rename_i h;obtain rfl:=sO e;obtain⟨p,vs,rfl,n,s⟩:=l;obtain⟨t,j,rfl,u,g⟩:=m;have w:=s.length;have A:=g.length;refine .inr (.inr (.inr (.inr ⟨p,t,vs,j,rfl,rfl,aV.mono S.sub n,aV.mono S.sub u,fun z=>?_,by rw[w,A];exact h,fun z=>?_,fun _ q f=>?_⟩)))
   ·rw[z] at w;contradiction
   ·rw[z] at A;contradiction
   ·obtain⟨B,s'⟩:=S.laid f;exact k (.ref q) _ _ B s' ⟨q,_,rfl,aV.of aU,ax.mono s' (ax.append s g)⟩
  ·exact nO e
 ·exact nO e
noncomputable def fU(C:Int->Int->Bool)(g:Int->Int->Dat):Dat->Dat->Option Res
 | .int i,.int j=>if C i j=true then some (.dat (g i j)) else none
 | _,_=>none
theorem qR{C:Int->Int->Bool}{C':Int->Int->Prop}{g:Int->Int->Dat}{g':Int->Int->V}(f:∀i j,C i j=true->C' i j)(h:∀i j K H,Rep K H (g i j) (g' i j)):eF X (rI C' g') (fU C g):=by
 intro H0 ps Z σ H Hi x y d d' o Q e S l m k;delta fU at e;split at e
 ·split at e
  ·rename_i n;obtain rfl:=sO e;subst l;subst m;exact⟨_,_,rfl,rfl,f _ _ n,k _ H Hi S (ag.refl _) (h _ _ _ _)⟩
  ·exact nO e
 ·exact nO e
theorem xJ{g:Int->Int->Dat}{g':Int->Int->V}(f:∀i j K H,Rep K H (g i j) (g' i j)):eF X (gX g') (fU (fun _ _=>true) g):=by
 intro H0 ps Z σ H Hi x y d d' o Q e S h l k;delta fU at e;split at e
 ·split at e
  ·obtain rfl:=sO e;subst h;subst l;exact⟨_,_,rfl,rfl,k _ H Hi S (ag.refl _) (f _ _ _ _)⟩
  ·contradiction
 ·exact nO e
noncomputable def j9:Res->Slot
 | .dat d=>.dat d
 | .own c=>.own c
def kc(i:Nat)(r:Res)(Z:DS):Option DS:=match Z[i]? with
 | none=>none
 | some (.io _)=>none
 | some _=>some (Z.set i (j9 r))
theorem SR.put(S:SR K H0 ps Z σ H Hi)(w:RR K H0 ps Z σ H Hi v r)(e:kc i r Z=some Z'):SR K H0 ps Z' (σ.set i (some v)) H Hi:=by
 delta kc at e;cases x:Z[i]? with
 | none=>rw[x] at e;exact nO e
 | some s =>
  have t:=(bt.mp x).1;have C:i<σ.length:=by rw[<-S.len];exact t
  have F:Z'=Z.set i (j9 r)/\∀c,s≠.io c:=by
   rw[x] at e;cases s<;>first|(exact nO e;done)|(exact⟨(Option.some.inj e).symm,by intro c;simp⟩)
  obtain⟨rfl,_⟩:=F;have other:∀{j:Nat}{s':Slot},j≠i->(Z.set i (j9 r))[j]?=some s'->Z[j]?=some s':=fun {j s'} f h=>by
   rw[kx (Ne.symm f)] at h;exact h
  have XG:∀{s':Slot},(Z.set i (j9 r))[i]?=some s'->s'=j9 r:=fun {s'} h=>by
   rw[lp t] at h;exact (Option.some.inj h).symm
  have g:∀{j:Nat},j≠i->(σ.set i (some v))[j]?=σ[j]?:=fun {j} f=>kx (Ne.symm f)
  have y:(σ.set i (some v))[i]?=some (some v):=lp C;refine⟨S.sub,S.keep,S.fw,fun j d h=>?_,fun j c h=>?_,fun j c h=>?_,fun j k c m p A B n o=>?_,by simp only[zb,zb];exact S.len,S.nw⟩
  ·by_cases f:j=i
   ·subst f;have q:=XG h;cases r with
    | dat d'=>cases q;exact⟨v,y,w⟩
    | own c=>contradiction
   ·rw[g f];exact S.dat j d (other f h)
  ·by_cases f:j=i
   ·subst f;have q:=XG h;cases r with
    | dat d'=>cases q
    | own c =>
     cases q;obtain⟨p,rfl,ho,D,E,_⟩:=w;exact⟨p,y,ho,D,E⟩
   ·rw[g f];exact S.own j c (other f h)
  ·by_cases f:j=i
   ·subst f;have q:=XG h;cases r<;>contradiction
   ·rw[g f];exact S.io j c (other f h)
  ·have back:∀{j:Nat}{c:Dat},((Z.set i (j9 r))[j]?=some (.own c)\/(Z.set i (j9 r))[j]?=some (.io c))->j≠i->(Z[j]?=some (.own c)\/Z[j]?=some (.io c)):=fun h f=>h.imp (other f) (other f)
   have u:∀{c:Dat}{p:dR},((Z.set i (j9 r))[i]?=some (.own c)\/(Z.set i (j9 r))[i]?=some (.io c))->(σ.set i (some v))[i]?=some (some (.ref p))->∀(k:Nat) (m:Dat),(Z[k]?=some (.own m)\/Z[k]?=some (.io m))->σ[k]?≠some (some (.ref p)):=fun {c p} h z=>by
    rw[y] at z;cases r with
    | dat d'=>rcases h with h|h<;>cases XG h
    | own c0 =>
     obtain⟨p',G,ho,D,E,nd⟩:=w;subst G;cases z;exact nd
   by_cases f:j=i
   ·by_cases l:k=i
    ·simp only[f,l]
    ·subst f;rw[g l] at o;exact absurd o (u A n k m (back B l))
   ·by_cases l:k=i
    ·subst l;rw[g f] at n;exact absurd n (u B o j c (back A f))
    ·rw[g f] at n;rw[g l] at o;exact S.ne j k c m p (back A f) (back B l) n o
abbrev GF:=Dat->DS->Option DS
def Kj(X:Cx)(g:GF)(t:TG):Prop:=∀(H0:Hp×Hp) (ps:Nat->Option dR) (Z:DS) (σ:St) (H Hi:Hp) (d:Dat) (Z':DS) (v:V) (Q:St->Hp->Prop),g d Z=some Z'->SR X.K H0 ps Z σ H Hi->Rep X.K Hi d v ->
 (∀f,SR X.K H0 ps Z' f H Hi->Q f H)->t v σ H Q
inductive DG (X:Cx) (tg:gi) (g:GF):Prop
 | mk (t:TG) (p:PG X tg t) (q:Kj X g t)
def Oa(X:Cx)(g:List Dat->DS->Option DS)(t:iV):Prop:=∀(H0:Hp×Hp) (ps:Nat->Option dR) (Z:DS) (σ:St) (H Hi:Hp) (ds:List Dat) (Z':DS) (vs:List V) (Q:St->Hp->Prop),g ds Z=some Z'->SR X.K H0 ps Z σ H Hi->ax X.K Hi ds vs ->
 (∀d,SR X.K H0 ps Z' d H Hi->Q d H)->t vs σ H Q
inductive mh (X:Cx) (tgs:List gi) (g:List Dat->DS->Option DS):Prop
 | mk (t:iV) (p:mF X tgs t) (q:Oa X g t)
def kD(i:Nat):GF:=fun d Z=>kc i (.dat d) Z
noncomputable def Gi:List Dat->DS->Option DS
 | [],Z=>some Z
 | _,_=>none
noncomputable def zW(g:GF)(f:List Dat->DS->Option DS):List Dat->DS->Option DS
 | d::ds,Z=>(g d Z).bind (f ds)
 | [],_=>none
theorem II{x:eA}(i:Nat)(f:X.N.Nodup)(g:X.N[i]?=some x)(h:Loc X.env.scope x)(j:X.fn x=true\/X.env.scope.names.lookup x=some .local):DG X (.Name x pos) (kD i):=by
 refine⟨_,Q7 f g h j,fun H0 ps Z σ H Hi d Z' v Q e S r k=>?_⟩
 exact k _ (S.put (r:=.dat d) r e)
theorem FQ:mh X [] Gi:=by
 refine⟨_,O6,fun H0 ps Z σ H Hi ds Z' vs Q e S r k=>?_⟩
 cases ds with
 | nil=>obtain rfl:=sO e;exact⟨r,k σ S⟩
 | cons _ _=>exact nO e
theorem IT{e:gi}{f:List gi}{g:GF}{h:List Dat->DS->Option DS}(m:DG X e g)(n:mh X f h)
 (hs:(ql (e::f) X.env).map (·.2)=Vg e X.env::(ql f X.env).map (·.2):=by rfl):mh X (e::f) (zW g h):=by
 obtain⟨t1,o,p⟩:=m;obtain⟨t2,q,s⟩:=n;refine⟨_,K7 o q hs,fun H0 ps Z σ H Hi ds Z' vs Q e S r k=>?_⟩
 cases ds with
 | nil=>exact nO e
 | cons d ds =>
  obtain⟨v,j,rfl,t,u⟩:=r;obtain⟨Z1,w,e⟩:=oA e;exact⟨v,j,rfl,p H0 ps Z σ H Hi d Z1 v _ w S t fun l x=>s H0 ps Z1 l H Hi ds Z' j Q e x u k⟩
inductive Out where
 | next (Z:DS)|ret (r:Res) (Z:DS)|brk (Z:DS)|cont (Z:DS)|exc (C:dR) (Z:DS)
def XE(X:Cx)(C:dR)(σ:St)(H:Hp):Prop:=uL X σ C H/\∀a,lX X σ (.ref C) a H
abbrev SF:=DS->Option Out
def pd(X:Cx)(H0:Hp×Hp)(ps:Nat->Option dR)(Hi:Hp)(D:Ends):Out->Prop
 | .next Z=>∀f H' d,SR X.K H0 ps Z f H' d->ag Hi d->D.nx f H'
 | .ret r Z=>∀v f H' d,SR X.K H0 ps Z f H' d->ag Hi d->RR X.K H0 ps Z f H' d v r->D.rt v H'
 | .brk Z=>∀f H' d,SR X.K H0 ps Z f H' d->ag Hi d->D.bk f H'
 | .cont Z=>∀f H' d,SR X.K H0 ps Z f H' d->ag Hi d->D.ct f H'
 | .exc C Z=>∀f H' d,SR X.K H0 ps Z f H' d->ag Hi d->XE X C f H'
theorem pd.mono{X:Cx}{H0:Hp×Hp}{Hi j:Hp}{ps:Nat->Option dR}{D:Ends}{o:Out}(s:ag Hi j)(h:pd X H0 ps Hi D o):pd X H0 ps j D o:=by
 cases o with
 | next Z=>exact fun d H' f S g=>h d H' f S (s.trans g)
 | ret r Z=>exact fun v d H' f S g=>h v d H' f S (s.trans g)
 | brk Z=>exact fun d H' f S g=>h d H' f S (s.trans g)
 | cont Z=>exact fun d H' f S g=>h d H' f S (s.trans g)
 | exc C Z=>exact fun d H' f S g=>h d H' f S (s.trans g)
def E6(X:Cx)(f:SF)(t:TS):Prop:=∀(H0:Hp×Hp) (ps:Nat->Option dR) (Z:DS) (σ:St) (H Hi:Hp) (o:Out) (D:Ends),f Z=some o->SR X.K H0 ps Z σ H Hi->pd X H0 ps Hi D o->t D σ H
inductive bU (X:Cx) (st:Uz) (f:SF):Prop
 | mk (t:TS) (p:PS X st t) (q:E6 X f t)
def Kr(X:Cx)(f:SF)(t:TS):Prop:=∀(H0:Hp×Hp) (ps:Nat->Option dR) (Z:DS) (σ:St) (H Hi:Hp) (o:Out) (D:Ends),f Z=some o->SR X.K H0 ps Z σ H Hi->pd X H0 ps Hi D o->t D σ H
inductive fG (X:Cx) (st:List Uz) (f:SF):Prop
 | mk (t:TS) (p:fA X st t) (q:Kr X f t)
noncomputable def qD:SF:=fun Z=>some (.next Z)
noncomputable def i8(f g:SF):SF:=fun Z=>(f Z).bind fun o=>match o with
 | .next Z1=>g Z1
 | o=>some o
noncomputable def nN(f:DF):SF:=fun Z=>(f Z).map fun p=>.next p.2
noncomputable def mB(f:EF):SF:=fun Z=>(f Z).map fun p=>.ret p.1 p.2
noncomputable def j3(c:BF)(f g:SF):SF:=fun Z=>(c Z).bind fun p=>if p.1=true then f p.2 else g p.2
def gS(i:Nat)(f:EF):SF:=fun Z=>(f Z).bind fun p=>(kc i p.1 p.2).map .next
noncomputable def mZ(g:GF)(f:DF):SF:=fun Z=>(f Z).bind fun p=>(g p.1 p.2).map .next
theorem BH:fG X [] qD:=⟨_,Cj,fun H0 ps Z σ H Hi o D e S k=>by obtain rfl:=sO e;exact k σ H Hi S (ag.refl _)⟩
theorem vY{st:Uz}{d:List Uz}{f g:SF}(l:bU X st f)(m:fG X d g):fG X (st::d) (i8 f g):=by
 obtain⟨t1,n,p⟩:=l;obtain⟨t2,q,s⟩:=m;refine⟨_,tz n q,fun H0 ps Z σ H Hi o D e S k=>?_⟩
 obtain⟨o1,t,e⟩:=oA e;refine p H0 ps Z σ H Hi o1 _ t S ?_;cases o1 with
 | next Z1=>exact fun h H' j u s'=>s H0 ps Z1 h H' j o D e u (k.mono s')
 | ret r Z1=>obtain rfl:=sO e;exact k
 | brk Z1=>obtain rfl:=sO e;exact k
 | cont Z1=>obtain rfl:=sO e;exact k
 | exc C Z1=>obtain rfl:=sO e;exact k
theorem D1{e:gi}{f:DF}(h:DD X e f)(hs:xn e none pos.line X.env=pure false:=by rfl):bU X (.Expr e pos) (nN f):=by
 obtain⟨t,p,q⟩:=h;refine⟨_,sv p hs,fun H0 ps Z σ H Hi o D e S k=>?_⟩
 obtain⟨d,Z1,j,e⟩:=oN e;obtain rfl:=sO e;exact q H0 ps Z σ H Hi d Z1 _ j S fun v H' g l s' _=>k σ H' g l s'
theorem Hj{e:gi}{f:EF}(h:DE X e f):bU X (.Return (some e) pos) (mB f):=by
 obtain⟨t,p,q⟩:=h;refine⟨_,x9 p,fun H0 ps Z σ H Hi o D e S k=>?_⟩
 obtain⟨r,Z1,g,e⟩:=oN e;obtain rfl:=sO e;exact q H0 ps Z σ H Hi r Z1 _ g S fun v H' d j s' l=>k v σ H' d j s' l
theorem v7{c:gi}{a b:List Uz}{fc:BF}{fa fb:SF}(g:DT X c fc)(h:fG X a fa)(j:fG X b fb):bU X (.If c a b pos) (j3 fc fa fb):=by
 obtain⟨tc,l,m⟩:=g;obtain⟨ta,n,p⟩:=h;obtain⟨tb,q,s⟩:=j;refine⟨_,yh l n q,fun H0 ps Z σ H Hi o D e S k=>?_⟩
 obtain⟨b,Z1,t,e⟩:=oB e;refine m H0 ps Z σ H Hi b Z1 _ t S fun H' d f s'=>?_
 cases b with
 | true=>exact p H0 ps Z1 σ H' d o D e f (k.mono s')
 | false=>exact s H0 ps Z1 σ H' d o D e f (k.mono s')
theorem FY{x:eA}{e:gi}{f:EF}{d:u3}(i:Nat)(j:X.N.Nodup)(l:X.N[i]?=some x)(m:Loc X.env.scope x)(n:X.fn x=true\/X.env.scope.names.lookup x=some .local)(h:DE X e f)
 (hs:xn e (some (.Name x d)) pos.line X.env=pure false):bU X (.Assign [.Name x d] e pos) (gS i f):=by
 obtain⟨t,p,q⟩:=h;refine⟨_,ya j l m p hs n,fun H0 ps Z σ H Hi o D e S k=>?_⟩
 obtain⟨r,Z1,s,e⟩:=oB e;obtain⟨Z2,u,e⟩:=oM e;obtain rfl:=sO e;exact q H0 ps Z σ H Hi r Z1 _ s S fun v H' g w s' y=>k _ H' g (w.put y u) s'
theorem Jh{j e:gi}{f:DF}{g:GF}(h:DD X e f)(s:DG X j g)(hs:Wq [j] e pos.line X.env=pure false:=by rfl)(hw:Wr [j] e X.env=pure none:=by rfl)
 (u:(ql [j] X.env).map (·.2)=[Vg j X.env]:=by rfl):bU X (.Assign [j] e pos) (mZ g f):=by
 obtain⟨t,p,q⟩:=h;obtain⟨tg',m,w⟩:=s;refine⟨_,yV p m hs hw u,fun H0 ps Z σ H Hi o D e S k=>?_⟩
 obtain⟨d,Z1,x,e⟩:=oB e;obtain⟨Z2,y,e⟩:=oM e;obtain rfl:=sO e;exact q H0 ps Z σ H Hi d Z1 _ x S fun v H' l z s' A=>w H0 ps Z1 σ H' l d _ v _ y z A fun n B=>k n H' l B s'
end
def JW(K:fj)(J:It)(items:List Dat)(e:Hp):Prop:=∀(i:Nat) (a:Hp),ag e a ->
 (∀d,items[i]?=some d->J.go i a/\∀x b,J.mz i a x b->(b=a/\Rep K e d x)\/∃p o,a p=none/\b=upd a p o/\∀c,ag e c->c p=none->Rep K (upd c p o) d x) /\
 (items.length<=i->J.stop i a)
theorem JW.mono{K:fj}{J:It}{items:List Dat}{g f:Hp}(h:JW K J items g)(s:ag g f):JW K J items f:=fun i m s'=>by
 obtain⟨j,q⟩:=h i m (s.trans s');refine⟨fun d e=>⟨(j d e).1,fun x k y=>?_⟩,q⟩
 rcases (j d e).2 x k y with⟨a,b⟩|⟨p,o,a,b,c⟩
 ·exact .inl ⟨a,Rep.mono s b⟩
 ·exact .inr ⟨p,o,a,b,fun l r n=>c l (s.trans r) n⟩
abbrev IF:=DS->Option (List Dat×DS)
def Ml(X:Cx)(f:IF)(i:TI):Prop:=∀(c:Hp×Hp) (d:Nat->Option dR) (Z:DS) (b:St) (H e:Hp) (items:List Dat) (g:DS) (R:It->Hp->Prop),f Z=some (items,g)->SR X.K c d Z b H e ->
 (∀J h a,SR X.K c d g b h a->ag e a->JW X.K J items a->R J h)->i b H R
inductive cX (X:Cx) (tg iter:gi) (f:IF):Prop
 | mk (wi:TI) (p:PI X tg iter wi) (q:Ml X f wi)
noncomputable def Iu:Dat->Option (List Dat)
 | .lst ds=>some ds
 | .tup ds=>some ds
 | _=>none
def jg(f:DF):IF:=fun Z=>(f Z).bind fun p=>(Iu p.1).map fun ds=>(ds,p.2)
noncomputable def dn(lo n:Int):List Dat:=(ka (n-lo).toNat).map fun k:Nat=>.int (lo+(k:Int))
noncomputable def nI(f:AF):IF:=fun Z=>(f Z).bind fun p=>match p.1 with
 | [.int n]=>if -(2 ^ 62)<=n/\n<2 ^ 62 then some (dn 0 n,p.2) else none
 | _=>none
noncomputable def pz(f:AF):IF:=fun Z=>(f Z).bind fun p=>match p.1 with
 | [.int lo,.int n]=>if -(2 ^ 62)<=lo/\lo<2 ^ 62/\-(2 ^ 62)<=n/\n<2 ^ 62 then some (dn lo n,p.2) else none
 | _=>none
section
variable{X:Cx}{tg:gi}
theorem PI.or{iter:gi}{c d:TI}(e:PI X tg iter c)(f:PI X tg iter d):PI X tg iter (fun a H R=>c a H R\/d a H R):=fun b s a H R I h=>h.elim (e b s a H R I) (f b s a H R I)
theorem QF{e:gi}{f:DF}(h:DD X e f):cX X tg e (jg f):=by
 obtain⟨t,p,q⟩:=h;refine⟨_,PI.or (Li p) (MA p),fun u w Z z H A items Z' R c S k=>?_⟩
 obtain⟨d,Z1,B,c⟩:=oB c;dsimp only at c;cases d with
 | lst ds =>
  cases c;refine .inl (q u w Z z H A _ _ _ B S fun v m j l s' r=>?_)
  obtain⟨a,vs,rfl,b,rs⟩:=r;refine⟨a,rfl,⟨vs,.inl (Rd.mono l.sub b)⟩,k _ m j l s' fun i C g=>⟨fun d e=>?_,fun hl=>⟨vs,.inl (Rd.mono g b),by rw[rs.length];exact hl⟩⟩⟩
  obtain⟨x,ex,n⟩:=rs.get e;refine⟨⟨vs,x,.inl (Rd.mono g b),ex⟩,fun y D o=>.inl ?_⟩
  obtain⟨rfl,s⟩:=o;have:=s vs (.inl (Rd.mono g b));rw[ex] at this;cases this;exact⟨rfl,n⟩
 | tup ds =>
  cases c;refine .inr (q u w Z z H A _ _ _ B S fun v m j l s' r=>?_)
  obtain⟨a,vs,rfl,b,rs⟩:=r;refine⟨a,rfl,⟨vs,aV.mono l.sub b⟩,k _ m j l s' fun i C g=>⟨fun d e=>?_,fun hl=>⟨vs,aV.mono g b,by rw[rs.length];exact hl⟩⟩⟩
  obtain⟨x,ex,n⟩:=rs.get e;refine⟨⟨vs,x,aV.mono g b,ex⟩,fun y D o=>.inl ?_⟩
  obtain⟨rfl,s⟩:=o;have:=s vs (aV.mono g b);rw[ex] at this;cases this;exact⟨rfl,n⟩
 | _=>exact nO c
theorem yu{K:fj}{lo n:Int}{b:Hp}:JW K (mV lo (n-lo).toNat) (dn lo n) b:=fun i H' _=>by
 refine⟨fun d e=>?_,fun hl=>?_⟩
 ·unfold dn at e;rw[eo] at e;have a:i<(n-lo).toNat:=by
   cases q:(ka (n-lo).toNat)[i]? with
   | none=>rw[q] at e;exact nO e
   | some j=>simpa using (bt.mp q).1
  rw[VE a] at e;obtain rfl:=sO e;exact⟨a,fun x H'' y=>.inl ⟨y.1,y.2⟩⟩
 ·unfold dn at hl;rw[a7,nT] at hl;exact hl
theorem L4{a:gi}{f:AF}{p pos:u3}(e:Gl X "range")(hm:X.mg "range"=none)(h:DA X [a] f)(hs:lq [a] X.env=[(false,eval a X.env)]:=by rfl):cX X tg (.Call (.Name "range" p) [a] [] pos) (nI f):=by
 obtain⟨t,g,q⟩:=h;refine⟨_,JL e hm g hs,fun i j Z l H m items Z' R b S k=>?_⟩
 obtain⟨ds,Z1,o,b⟩:=oB b;dsimp only at b;refine q i j Z l H m ds Z1 _ o S fun vs s c u s' r=>?_
 split at b
 ·split at b
  ·rename_i n d;obtain⟨rfl,rfl⟩:=sP b;obtain⟨v,r1,rfl,w,x⟩:=r;subst w;subst x;refine⟨n,rfl,d.1,d.2,?_⟩;have:=k (mV 0 (n-0).toNat) s c u s' yu
   rwa [VN] at this
  ·exact nO b
 ·exact nO b
theorem Qw{a b:gi}{f:AF}{p pos:u3}(i:Gl X "range")(hm:X.mg "range"=none)(h:DA X [a,b] f)(hs:lq [a,b] X.env=[(false,eval a X.env),(false,eval b X.env)]:=by rfl)(d:lq [b] X.env=[(false,eval b X.env)]:=by rfl) :
  cX X tg (.Call (.Name "range" p) [a,b] [] pos) (pz f):=by
 obtain⟨t,j,q⟩:=h;refine⟨_,Ow i hm j hs d,fun l m Z o H s items Z' R c S k=>?_⟩
 obtain⟨ds,Z1,u,c⟩:=oB c;dsimp only at c;refine q l m Z o H s ds Z1 _ u S fun vs x e y s' r=>?_
 split at c
 ·split at c
  ·rename_i lo n z;obtain⟨rfl,rfl⟩:=sP c;obtain⟨v,r1,rfl,A,w,r2,rfl,g,B⟩:=r;subst A;subst g;subst B;exact⟨lo,n,rfl,z,k _ x e y s' yu⟩
  ·exact nO c
 ·exact nO c
end
noncomputable def forLoop(g:GF)(fb:SF):List Dat->SF
 | [],Z=>some (.next Z)
 | x::xs,Z=>(g x Z).bind fun Z1=>(fb Z1).bind fun o=>match o with
  | .next Z2=>forLoop g fb xs Z2
  | .cont Z2=>forLoop g fb xs Z2
  | .brk Z2=>some (.next Z2)
  | .ret r Z2=>some (.ret r Z2)
  | .exc _ _=>none
def nA(fi:IF)(g:GF)(fb:SF):SF:=fun Z=>(fi Z).bind fun p=>forLoop g fb p.1 p.2
section
variable{X:Cx}{pos:u3}{P:iN}{w:nE}{K:fj}{mg:eA->Option bR}{base:nS}{H0:Hp×Hp}{ps:Nat->Option dR}{σ:St}{psB:Nat->Option dR}{a b:gi}{ta tb:TE}{rest:List gi}{pins:List (dR×wm)}{H Hi:Hp}{s:dr}{Z:DS}{i:Nat}{io:Bool}{c c':Dat}{p:dR}{apos:u3}
theorem Mj{O iter:gi}{body:List Uz}{fi:IF}{g:GF}{fb:SF}(hp:W4 (ib X.prog X.w) X.A X.env X.xe)(hc:X.calm=true)(R:cX X O iter fi)(hg:DG X O g)(hb:fG X body fb)
 (hs:∀x,r0 iter X.env x=pure x:=by intro _;rfl):bU X (.For O iter body [] pos) (nA fi g fb):=by
 obtain⟨wi,pi,qi⟩:=R;obtain⟨tg',pg,qg⟩:=hg;obtain⟨tb,pb,qb⟩:=hb;refine⟨_,Js hp hc pi pg pb hs,fun H0 ps Z σ H Hi o D e S k=>?_⟩
 obtain⟨items,Z1,e1,e⟩:=oB e;refine qi H0 ps Z σ H Hi items Z1 _ e1 S fun J H1 u S1 Q jw=>?_
 refine⟨fun i m l N=>m=items.length-i/\i<=items.length/\∃F h,SR X.K H0 ps F l N h/\ag u h/\forLoop g fb (items.drop i) F=some o,
  ⟨items.length,by simp,ro _,Z1,u,S1,ag.refl _,by simpa using e⟩,?_⟩
 rintro i m l N ⟨rfl,R,F,h,G,s',f⟩;have I:=jw i N (s'.trans G.sub)
 by_cases L:i<items.length
 ·have ed:=X3 L;have T:=cA L;rw[ed] at f;obtain⟨Z2,e2,f⟩:=oA f;obtain⟨U,e3,f⟩:=oA f;refine .inr ⟨(I.1 _ T).1,fun z V=>∃Z3 B,SR X.K H0 ps Z3 z V B/\ag u B/\forLoop g fb (items.drop (i+1)) Z3=some o,fun z V ⟨Z3,B,S3,s3,f3⟩=>⟨items.length-(i+1),by omega,rfl,L,Z3,B,S3,s3,f3⟩,fun x E y=>?_⟩
  obtain⟨d,W,Y,rx⟩:∃d,SR X.K H0 ps F l E d/\ag h d/\Rep X.K d items[i] x:=by
   rcases (I.1 _ T).2 x E y with⟨rfl,r⟩|⟨p,ob,n,rfl,r⟩
   ·exact⟨h,G,ag.refl _,Rep.mono s' r⟩
   ·obtain⟨a,b⟩:=G.laid n;exact⟨_,a,b,r h s' (G.dj n)⟩
  refine qg H0 ps F l E d _ Z2 x _ e2 W rx fun z S2=>?_
  refine qb H0 ps Z2 z E d U _ e3 S2 ?_;have sm:=s'.trans Y;cases U with
  | next Z3=>exact fun q M j t s4=>⟨Z3,j,t,sm.trans s4,f⟩
  | cont Z3=>exact fun q M j t s4=>⟨Z3,j,t,sm.trans s4,f⟩
  | brk Z3=>obtain rfl:=sO f;exact fun q M j t s4=>k q M j t ((Q.trans sm).trans s4)
  | ret r Z3=>obtain rfl:=sO f;exact fun v q M j t s4 rr=>k v q M j t ((Q.trans sm).trans s4) rr
  | exc C Z3=>exact nO f
 ·have ei:i=items.length:=by lia
  subst ei;rw[ZC] at f;obtain rfl:=sO f;exact .inl ⟨I.2 (eB _),k l N h G (Q.trans s')⟩
noncomputable def gw(c:BF)(fb:SF):Nat->SF
 | 0,_=>none
 | n+1,Z=>(c Z).bind fun p=>if p.1=true then (fb p.2).bind (fun o=>match o with
   | .next Z2=>gw c fb n Z2
   | .cont Z2=>gw c fb n Z2
   | .brk Z2=>some (.next Z2)
   | .ret r Z2=>some (.ret r Z2)
   | .exc _ _=>none) else some (.next p.2)
theorem F5{c:gi}{body:List Uz}{fc:BF}{fb:SF}(n:Nat)(J:W4 (ib X.prog X.w) X.A X.env X.xe)(L:DT X c fc)(M:fG X body fb):bU X (.While c body [] pos) (gw fc fb n):=by
 obtain⟨tc,N,O⟩:=L;obtain⟨tb,Q,R⟩:=M;refine⟨_,Gb J N Q,fun H0 ps Z σ H Hi o D e S k=>?_⟩
 refine⟨fun m g z=>∃x l,SR X.K H0 ps x g z l/\ag Hi l/\gw fc fb m x=some o,⟨n,Z,Hi,S,ag.refl _,e⟩,?_⟩
 rintro m g z ⟨x,l,T,s',d⟩;cases m with
 | zero=>exact nO d
 | succ m =>
  obtain⟨b,Z1,U,d⟩:=oB d;refine O H0 ps x g z l b Z1 _ U T fun B t E F=>?_
  cases b with
  | false =>
   obtain rfl:=sO d;exact k g B t E (s'.trans F)
  | true =>
   have d:((fb Z1).bind fun o=>match o with
    | .next Z2=>gw fc fb m Z2
    | .cont Z2=>gw fc fb m Z2
    | .brk Z2=>some (.next Z2)
    | .ret r Z2=>some (.ret r Z2)
    | .exc _ _=>none)=some o:=d
   refine⟨fun y G=>∃Z3 q,SR X.K H0 ps Z3 y G q/\ag Hi q/\gw fc fb m Z3=some o,fun y G ⟨Z3,q,V,s3,W⟩=>⟨m,Vw _,Z3,q,V,s3,W⟩,?_⟩
   obtain⟨I,Y,d⟩:=oA d;refine R H0 ps Z1 g B t I _ Y E ?_;have sm:=s'.trans F;cases I with
   | next Z3=>exact fun h u f j s4=>⟨Z3,f,j,sm.trans s4,d⟩
   | cont Z3=>exact fun h u f j s4=>⟨Z3,f,j,sm.trans s4,d⟩
   | brk Z3=>obtain rfl:=sO d;exact fun h u f j s4=>k h u f j (sm.trans s4)
   | ret r Z3=>obtain rfl:=sO d;exact fun v h u f j s4 rr=>k v h u f j (sm.trans s4) rr
   | exc C Z3=>exact nO d
noncomputable def fO:AF:=fun Z=>some ([],Z)
noncomputable def dJ(f:DF)(g:AF):AF:=fun Z=>(f Z).bind fun p=>(g p.2).map fun q=>(p.1::q.1,q.2)
noncomputable def pW(f:AF):EF:=fun Z=>(f Z).bind fun p=>if p.1.length<=dk then some (.own (.lst p.1),p.2) else none
noncomputable def rJ(f:AF):DF:=fun Z=>(f Z).bind fun p=>if p.1.length<=dk then some (.tup p.1,p.2) else none
theorem IJ:DA X [] fO:=⟨_,iY,fun H0 ps Z σ H Hi ds Z' Q e S k=>by obtain⟨rfl,rfl⟩:=sP e;exact k [] H Hi S (ag.refl _) rfl⟩
theorem KW{e:gi}{h:List gi}{f:DF}{g:AF}(o:DD X e f)(q:DA X h g)(hs:bp X e h:=by rfl):DA X (e::h) (dJ f g):=by
 obtain⟨t1,r,t⟩:=o;obtain⟨t2,u,x⟩:=q;refine⟨_,dE r u hs,fun H0 ps Z σ H Hi ds Z' Q e S k=>?_⟩
 obtain⟨d,Z1,y,e⟩:=oB e;obtain⟨j,Z2,z,e⟩:=oN e;obtain⟨rfl,rfl⟩:=sP e;refine t H0 ps Z σ H Hi d Z1 _ y S fun v A l B C D=>?_
 exact x H0 ps Z1 σ A l j _ _ z B fun vs E m F n G=>k (v::vs) E m F (C.trans n) ⟨v,vs,rfl,Rep.mono n D,G⟩
theorem Il{j:List gi}{f:AF}(h:DA X j f):DE X (.List j pos) (pW f):=by
 obtain⟨t,p,q⟩:=h;refine⟨_,LU p,fun H0 ps Z σ H Hi r Z' Q e S k=>?_⟩
 obtain⟨ds,Z1,n,e⟩:=oB e;split at e
 ·rename_i o;obtain⟨rfl,rfl⟩:=sP e;refine q H0 ps Z σ H Hi ds _ _ n S fun vs H1 l d u m=>⟨by rw[m.length];exact o,fun p g=>?_⟩
  exact k (.ref p) _ l (d.made g) u ⟨p,rfl,⟨_,aU,m,d.dj g⟩,(d.bI g).2,(d.bI g).1,d.dP g⟩
 ·exact nO e
theorem Ro{g:List gi}{m}{f:AF}(h:DA X g f):DD X (.Tuple g m pos) (rJ f):=by
 obtain⟨t,p,q⟩:=h;refine⟨_,uI p,fun H0 ps Z σ H Hi d Z' Q e S k=>?_⟩
 obtain⟨ds,Z1,n,e⟩:=oB e;split at e
 ·rename_i r;obtain⟨rfl,rfl⟩:=sP e;refine q H0 ps Z σ H Hi ds _ _ n S fun vs H1 Hi1 u v j=>⟨by rw[j.length];exact r,fun p x=>?_⟩
  obtain⟨y,l⟩:=u.laid x;exact k (.ref p) _ _ y (v.trans l) ⟨p,vs,rfl,aV.of aU,ax.mono l j⟩
 ·exact nO e
abbrev bc:=List Dat->Option Res
def RC(K:fj)(H f e:Hp)(v:V):Res->Prop
 | .dat d=>Rep K e d v
 | .own c=>∃p,v=.ref p/\cx K f e p c/\H p=none
def aY(K:fj)(fn:bc):Sp:=fun vs H Q _=>∃Hi ds r,ag Hi H/\ax K Hi ds vs/\fn ds=some r /\
 ∀v e d,ag H e->ag Hi d->ag d e->(∀p o,d p=some o->gg Hi H p o)->RC K H e d v r->Q v e
abbrev dI:=Dat->List Dat->Option (Res×Dat)
def cO(K:fj)(j:Nat)(fn:dI):Sp:=fun vs H Q _=>∃Hi p c ds r c',ag Hi H/\vs[j]?=some (.ref p)/\cx K H Hi p c/\ax K Hi ds (vs.eraseIdx j)/\fn c ds=some (r,c') /\
 ∀v e d,(∀b o,H b=some o->b≠p->e b=some o)->ag Hi d->ag d e->(∀p o,d p=some o->gg Hi H p o)->cx K e d p c'->RC K H e d v r->Q v e
theorem SR.after{K:fj}{H0:Hp×Hp}{ps:Nat->Option dR}{Z:DS}{σ:St}{H Hi g f:Hp}{v:V}{r:Res}(S:SR K H0 ps Z σ H Hi)(s:ag H g)(k:ag Hi f)(m:ag f g)
 (nw:∀p o,f p=some o->gg Hi H p o)(t:RC K H g f v r):SR K H0 ps Z σ g f/\RR K H0 ps Z σ g f v r:=by
 have own:∀{q:dR}{c:Dat},cx K H Hi q c->cx K g f q c:=fun {q c} h=>by
  obtain⟨⟨o,e⟩,n⟩:=h.some;refine h.keeps ((s q o e).trans e.symm) k ?_;cases z:f q with
  | none=>rfl
  | some u =>
   rcases nw q u z with w|w|⟨vs,w⟩
   ·rw[n] at w;exact nO w
   ·rw[e] at w;contradiction
   ·subst w;have:=m _ _ z;rw[s q o e] at this;obtain rfl:=sO this;exact (h.nt e).elim
 refine⟨⟨m,fun b o e n=>s b o (S.keep b o e n),fun p l z=>?_,fun i d e=>?_,fun i c e=>?_,fun i c e=>?_,S.ne,S.len,fun p o e=>?_⟩,?_⟩
 ·cases e:H p with
  | none=>exact S.fw p l e
  | some o=>rw[s p o e] at z;contradiction
 ·obtain⟨w,a,b⟩:=S.dat i d e;exact⟨w,a,Rep.mono k b⟩
 ·obtain⟨q,a,b,j,x⟩:=S.own i c e;exact⟨q,a,own b,j,x⟩
 ·obtain⟨q,a,b,j⟩:=S.io i c e;exact⟨q,a,own b,j⟩
 ·rcases nw p o e with z|z|z
  ·exact S.nw p o z
  ·exact .inr (.inl (S.bI z).1)
  ·exact .inr (.inr z)
 ·cases r with
  | dat d=>exact t
  | own c =>
   obtain⟨p,e,o,n⟩:=t;exact⟨p,e,o,(S.bI n).2,(S.bI n).1,S.dP n⟩
noncomputable def bY(fn:bc)(fa:AF):EF:=fun Z=>(fa Z).bind fun p=>(fn p.1).map fun r=>(r,p.2)
structure vA (X:Cx) (x:eA) (sp:Sp):Prop where
 gl:Gl X x
 is:∃(CX:ij) (k:Nat) (f:dR) (fd:hQ) (pn:List eA),aO X.prog X.w X.K X.mg X.base CX k f fd pn sp/\Room k X.A/\X.mg x=some (.ref f)/\VA X.K (.ref f)=true/\Binds X.K fd pn []/\pK CX X E0
theorem Jc{x:eA}{e:gi}{g:List gi}{fn:bc}{fa:AF}{p:u3}(h:vA X x (aY X.K fn))(y:DA X (e::g) fa)(j:bb x:=by decide)
 (z:bp X e g:=by rfl)(l:(KX pos (lq g X.env)).any (·.1)=false:=by rfl):DE X (.Call (.Name x p) (e::g) [] pos) (bY fn fa):=by
 obtain⟨A,CX,k,f,fd,pn,F,B,hm,C,D,E⟩:=h;obtain⟨t,G,q⟩:=y;refine⟨_,Dh F B A hm C D .nil E G j z l,fun H0 ps Z σ H Hi r Z' Q d S k=>?_⟩
 obtain⟨ds,Z1,I,d⟩:=oB d;obtain⟨r2,J,d⟩:=oM d;obtain⟨rfl,rfl⟩:=sP d;refine q H0 ps Z σ H Hi ds _ _ I S fun vs H1 m n L M=>?_
 refine⟨m,ds,_,n.sub,by rw[r4];exact M,J,fun v N o a1 u O R T=>?_⟩
 obtain⟨U,V⟩:=n.after a1 u O R T;exact k v N o U (L.trans u) V
noncomputable def dX(n:Nat)(ds:List Dat):DS:=ds.map Slot.dat++WH (n-ds.length) .no
def kg(n:Nat)(f:SF):bc:=fun ds=>(f (dX n ds)).bind fun o=>match o with
 | .next _=>some (.dat .aB)
 | .ret r _=>some r
 | _=>none
theorem BR{K:fj}{N:List eA}{vs:List V}{ds:List Dat}{H Hi:Hp}(s:ag Hi H)(r:ax K Hi ds vs):SR K (H,Hi) (fun _=>none) (dX N.length ds) (start N vs) H Hi:=by
 have hl:=r.length;have f:∀{i:Nat}{s:Slot},(dX N.length ds)[i]?=some s->(∃d,s=.dat d/\ds[i]?=some d)\/s=.no:=fun {i s} h=>by
  delta dX at h
  by_cases m:i<ds.length
  ·rw[kq (by simpa using m),eo] at h
   cases e:ds[i]? with
   | none=>rw[e] at h;exact nO h
   | some d=>rw[e] at h;obtain rfl:=sO h;exact .inl ⟨d,rfl,rfl⟩
  ·rw[lz (by simpa using m)] at h
   rw[Wd] at h;split at h
   ·obtain rfl:=sO h;exact .inr rfl
   ·exact nO h
 refine⟨s,fun b o e _=>e,fun p l=>?_,fun i d e=>?_,fun i c e=>?_,fun i c e=>?_,fun i j c c' p k h2=>?_,?_,fun p o e=>.inl e⟩
 ·obtain⟨_,z⟩:=l;exact nO z
 ·rcases f e with⟨d',g,h⟩|g
  ·cases g;obtain⟨v,a,b⟩:=r.get h;refine⟨v,?_,b⟩;unfold start;rw[kq (by simpa using (bt.mp a).1),eo,a]
   rfl
  ·contradiction
 ·rcases f e with⟨d',g,h⟩|g<;>contradiction
 ·rcases f e with⟨d',g,h⟩|g<;>contradiction
 ·rcases k with k|k<;>(rcases f k with⟨d',g,h⟩|g<;>contradiction)
 ·delta dX start;simp
  lia
theorem Me{x u:eA}{st:Uz}{f:dR}{D:hQ}{N ps:List eA}{k:Nat}{fn:bc}{fb:SF}(F:bf K x u st f D)(S:bw N ps (aJ st))(B:∀ds r,fn ds=some r->ds.length=ps.length)
 (J:∀(y:bR) (A:n6) (outer:List Xo) (s:dr) (H:Hp) (E:XK),Room k (A.deeper (Vu u (aJ st) s.heap.objs.size f y))->fG (dA bh P w K mg base N u (aJ st) f y A outer s H E).gY (fZ st) fb)
 (L:∀ds r,fn ds=some r->kg N.length fb ds=some r):aO P w K mg base bh (k+1) f D ps (aY K fn):=by
 refine F.ok S (fun vs H Q E h=>?_) (fun y A outer s H vs Q E M h=>?_)
 ·obtain⟨Hi,ds,r,s,rs,e,_⟩:=h;rw[rs.length];exact B ds r e
 ·obtain⟨Hi,ds,r,sm,rs,e,G⟩:=h;obtain⟨t,p,q⟩:=J y A outer s H E M;refine⟨t,p,?_⟩;have l:=L ds r e;obtain⟨o,O,l⟩:=oA l;have nw:∀{Z:DS}{m:St}{n g:Hp},SR K (H,Hi) (fun _=>none) Z m n g->∀p o,g p=some o->gg Hi H p o:=fun j p o e=>j.nw p o e
  have kp:∀{Z:DS}{m:St}{n g:Hp},SR K (H,Hi) (fun _=>none) Z m n g->ag H n:=fun j b o e=>j.keep b o e (fun ⟨_,z⟩=>by exact nO z)
  refine q (H,Hi) (fun _=>none) (dX N.length ds) (start N vs) H Hi o _ O (BR sm rs) ?_
  cases o with
  | next Z =>
   obtain rfl:=sO l;exact fun m n g j s'=>G .aB n g (kp j) s' j.sub (nw j) rfl
  | ret r' Z =>
   cases l;refine fun v m n g j s' I=>G v n g (kp j) s' j.sub (nw j) ?_
   cases r with
   | dat d=>exact I
   | own c =>
    obtain⟨p,R,o,np,T,_⟩:=I;exact⟨p,R,o,T⟩
  | brk Z=>exact nO l
  | cont Z=>exact nO l
  | exc C Z=>exact nO l
def kW(K:fj)(f:DF):TE:=fun σ H Q=>∃H0 ps Z Hi d g,f Z=some (d,g)/\SR K H0 ps Z σ H Hi/\∀v h e,SR K H0 ps g σ h e->ag Hi e->Rep K e d v->Q v h
def ky(K:fj)(f:BF):TT:=fun σ H Q=>∃H0 ps Z Hi d g,f Z=some (d,g)/\SR K H0 ps Z σ H Hi/\∀h e,SR K H0 ps g σ h e->ag Hi e->Q d h
def kS(K:fj)(g:GF):TG:=fun v σ H Q=>∃H0 ps Z Hi d f,g d Z=some f/\SR K H0 ps Z σ H Hi/\Rep K Hi d v/\∀e,SR K H0 ps f e H Hi->Q e H
theorem DD.lu{X:Cx}{e:gi}{f:DF}(h:DD X e f):PE X e (kW X.K f):=by
 obtain⟨t,p,q⟩:=h;rintro pins s σ H Q I ⟨H0,ps,Z,Hi,d,g,j,S,k⟩;exact p pins s σ H Q I (q H0 ps Z σ H Hi d g Q j S k)
theorem DG.lu{X:Cx}{e:gi}{g:GF}(h:DG X e g):PG X e (kS X.K g):=by
 obtain⟨t,p,q⟩:=h;rintro pins s σ H v u Q I r ⟨H0,ps,Z,Hi,d,f,j,S,l,k⟩;exact p pins s σ H v u Q I r (q H0 ps Z σ H Hi d f v Q j S l k)
def kn(X:Cx)(ifs:List gi)(f:BF):Prop:=PF X ifs (ky X.K f)
theorem HQ{X:Cx}:kn X [] (fun Z=>some (true,Z)):=by
 rintro pins s σ H Q I ⟨H0,ps,Z,Hi,d,Z',e,S,k⟩;obtain⟨rfl,rfl⟩:=sP e;exact GW pins s σ H Q I (k H Hi S (ag.refl _))
theorem KH{X:Cx}{c:gi}{f:BF}(h:DT X c f):kn X [c] f:=by
 obtain⟨t,p,q⟩:=h;rintro pins s σ H Q I ⟨H0,ps,Z,Hi,d,e,g,S,k⟩;exact Qr p pins s σ H Q I (q H0 ps Z σ H Hi d e Q g S k)
noncomputable def noOwn(Z:DS):Bool:=Z.all fun s=>match s with|.own _=>false|_=>true
theorem BP{Z:DS}(h:noOwn Z=true){i:Nat}{c:Dat}:Z[i]?≠some (.own c):=fun e=>by
 have:=ia.mp h _ (eR e);contradiction
noncomputable def a9(d:Option (Nat×Nat)):List (Option Nat)->DS->DS
 | [],Z=>Z
 | o::r,Z=>a9 d r (match o with
  | some j=>if d.map abx=some j then Z else (match Z[j]? with|some (.own c)=>Z.set j (.dat c)|_=>Z)
  | none=>Z)
noncomputable def bX(caps:List (Option Nat))(Z:DS):DS:=caps.map fun o=>match o with
 | some j=>(match Z[j]? with|some (.dat d)=>.dat d|_=>.no)
 | none=>.no
noncomputable def compLoop(g:GF)(fc:BF)(fe:DF):List Dat->List Dat->DS->Option (List Dat×DS)
 | [],d,Z=>some (d,Z)
 | x::xs,d,Z=>(g x Z).bind fun Z1=>(fc Z1).bind fun p=>if p.1=true then (fe p.2).bind fun q=>if d.length<dk/\noOwn q.2=true then compLoop g fc fe xs (d++[q.1]) q.2 else none
   else if noOwn p.2=true then compLoop g fc fe xs d p.2 else none
def dm(caps:List (Option Nat))(d:Option (Nat×Nat))(fi:IF)(g:GF)(fc:BF)(fe:DF):EF:=fun Z=>(fi Z).bind fun p =>
 let Z1:=a9 d caps p.2
 match d with
 | none=>(compLoop g fc fe p.1 [] (bX caps Z1)).map fun q=>(.own (.lst q.1),Z1)
 | some (k,j)=>if caps[k]?=some (some j) then (match Z1[j]? with
  | some (.own c)=>(compLoop g fc fe p.1 [] ((bX caps Z1).set k (.io c))).bind fun q=>(match q.2[k]? with|some (.io c')=>some (.own (.lst q.1),Z1.set j (.own c'))|_=>none)
  | some (.io c)=>(compLoop g fc fe p.1 [] ((bX caps Z1).set k (.io c))).bind fun q=>(match q.2[k]? with|some (.io c')=>some (.own (.lst q.1),Z1.set j (.io c'))|_=>none)
  | _=>none) else none
theorem oj(d:Option (Nat×Nat)):∀(caps:List (Option Nat)) {Z:DS}{H Hi:Hp},SR K H0 ps Z σ H Hi->∃f,SR K H0 ps (a9 d caps Z) σ H f/\ag Hi f
 | [],_,_,Hi,S=>⟨Hi,S,ag.refl _⟩
 | none::r,_,_,_,S=>oj d r S
 | some j::r,Z,H,Hi,S=>by
  unfold a9;dsimp only
  by_cases hl:d.map abx=some j
  ·rw[if_pos hl];exact oj d r S
  ·rw[if_neg hl];split
   ·rename_i c e;obtain⟨Hi1,v,_,h,k,_⟩:=S.D7 e;obtain⟨g,l,m⟩:=oj d r h;exact⟨g,l,k.trans m⟩
   ·exact oj d r S
theorem SR.rebase{Z:DS}{H Hi:Hp}(S:SR K H0 ps Z σ H Hi)(n:noOwn Z=true):SR K (H,Hi) ps Z σ H Hi :=
 ⟨S.sub,fun b o e _=>e,S.fw,S.dat,fun i c e=>absurd e (BP n),S.io,S.ne,S.len,fun p o e=>.inl e⟩
theorem AV{caps:List (Option Nat)}{Z:DS}{k:Nat}{d:Dat}(h:(bX caps Z)[k]?=some (.dat d)):∃j:Nat,caps[k]?=some (some j)/\Z[j]?=some (.dat d):=by
 delta bX at h;rw[eo] at h;cases e:caps[k]? with
 | none=>rw[e] at h;exact nO h
 | some o =>
  rw[e] at h;cases o with
  | none=>cases h
  | some j =>
   refine⟨j,rfl,?_⟩;simp at h;split at h
   ·rename_i d' f;cases h;exact f
   ·contradiction
theorem ls{caps:List (Option Nat)}{Z:DS}{k:Nat}{c:Dat}:(bX caps Z)[k]?≠some (.own c)/\(bX caps Z)[k]?≠some (.io c):=by
 delta bX;rw[eo];cases e:caps[k]? with
 | none=>simp
 | some o =>
  cases o with
  | none=>simp
  | some j =>
   simp only[ti];constructor
   all_goals
    intro z;have z:=Option.some.inj z;split at z<;>contradiction
theorem yc{caps:List (Option Nat)}{k j:Nat}{v:V}(h:caps[k]?=some (some j))(e:σ[j]?=some (some v)):(eJ caps σ)[k]?=some (some v):=by
 delta eJ;simp_all
theorem NL{caps:List (Option Nat)}{Z:DS}{H Hi:Hp}(S:SR K H0 ps Z σ H Hi):SR K (H,Hi) (fun _=>none) (bX caps Z) (eJ caps σ) H Hi:=by
 refine⟨S.sub,fun b o e _=>e,fun p l=>?_,fun k d e=>?_,fun k c e=>absurd e ls.1,fun k c e=>absurd e ls.2,fun k k' c c' p h=>?_,?_,fun p o e=>.inl e⟩
 ·obtain⟨_,z⟩:=l;exact nO z
 ·obtain⟨j,f,g⟩:=AV e;obtain⟨v,a,b⟩:=S.dat j d g;exact⟨v,yc f a,b⟩
 ·rcases h with h|h
  ·exact absurd h ls.1
  ·exact absurd h ls.2
 ·simp[bX,eJ]
theorem DQ{J:It}{items:List Dat}{D:dR}{g:GF}{fc:BF}{fe:DF}{L:List Dat}{R Ze:DS}{RD:St}{A j:Hp}{Qf:Hp->Prop}(S0:SR K (A,j) psB R RD A j)(n0:noOwn R=true)(T:A D=none)
 (jw:JW K J items j)(ef:compLoop g fc fe items [] R=some (L,Ze))
 (RP:∀k f d vs,SR K (f,d) psB Ze k f d->ag j d->(∀b o,A b=some o->¬gm psB b->f b=some o)->(∀p o,d p=some o->gg j A p o)->f D=some (.lst vs)->ax K d L vs->d D=none->Qf f) :
  ∃W:Nat->Nat->St->Hp->Prop,(∃m,W 0 m RD (upd A D (.lst [])))/\∀i m k f,W i m k f->(J.stop i f/\Qf f)\/(J.go i f/\∀x C,J.mz i f x C->kS K g x k C fun E H2=>ky K fc E H2 fun b H3 =>
   if b=true then kW K fe E H3 fun y F=>∃ys,F D=some (.lst ys)/\ys.length<dk/\∃M,M<m/\W (i+1) M E (upd F D (.lst (ys++[y])))
   else ∃M,M<m/\W (i+1) M E H3):=by
 have nl:¬gm psB D:=fun l=>S0.fw D l T
 have RE:=S0.dj T;have N:∀{Z:DS}{σ:St}{H Hi:Hp}{H0:Hp×Hp}(vs:List V),SR K H0 psB Z σ H Hi->noOwn Z=true->Hi D=none->SR K (upd H D (.lst vs),Hi) psB Z σ (upd H D (.lst vs)) Hi:=fun {Z σ H Hi H0} vs S n hd=>by
  refine⟨rM S.sub hd,fun b o e _=>e,fun p l=>?_,S.dat,fun i c e=>absurd e (BP n),fun i c e=>?_,S.ne,S.len,fun p o e=>.inl e⟩
  ·have hp:p≠D:=fun z=>nl (by rw[<-z];exact l)
   rw[aw hp];exact S.fw p l
  ·obtain⟨q,a,b,c1⟩:=S.io i c e;have hq:q≠D:=fun z=>nl (by rw[<-z];exact⟨i,c1⟩)
   exact⟨q,a,b.keeps (aw hq) (ag.refl _) b.some.2,c1⟩
 refine⟨fun i m k f=>m=items.length-i/\i<=items.length/\∃Z d G vs,SR K (f,d) psB Z k f d/\noOwn Z=true/\ag j d/\(∀b o,A b=some o->¬gm psB b->f b=some o)/\(∀p o,d p=some o->gg j A p o) /\
   f D=some (.lst vs)/\ax K d G vs/\d D=none/\compLoop g fc fe (items.drop i) G Z=some (L,Ze),
  ⟨items.length,by simp,ro _,R,j,[],[],N [] S0 n0 RE,n0,ag.refl _,fun b o e _=>by rw[aw (dh e T)];exact e,fun p o e=>.inl e,aU,rfl,RE,by simpa using ef⟩,?_⟩
 rintro i m k f ⟨rfl,hi,Z,d,G,vs,S,n,sm,kb,nb,U,Y,hd,h⟩;have O:=jw i f (sm.trans S.sub);have base:∀{p:dR},f p=none->A p=none:=fun {p} z=>by
  cases e:A p with
  | none=>rfl
  | some o =>
   by_cases l:gm psB p
   ·exact absurd z (S.fw p l)
   ·rw[kb p o e l] at z;contradiction
 by_cases I:i<items.length
 ·have ed:=X3 I;have eg:=cA I;rw[ed] at h;obtain⟨Z1,e2,h⟩:=oA h;obtain⟨b,Z2,e3,h⟩:=oB h;dsimp only at h;refine .inr ⟨(O.1 _ eg).1,fun x C y=>?_⟩
  obtain⟨t,RU,Q,rx⟩:∃t,SR K (f,d) psB Z k C t/\ag d t/\Rep K t items[i] x:=by
   rcases (O.1 _ eg).2 x C y with⟨rfl,r⟩|⟨p,ob,nn,rfl,r⟩
   ·exact⟨d,S,ag.refl _,Rep.mono sm r⟩
   ·obtain⟨a,b⟩:=S.laid nn;exact⟨_,a,b,r d sm (S.dj nn)⟩
  refine⟨(f,d),psB,Z,t,_,Z1,e2,RU,rx,fun E S2=>?_⟩
  refine⟨(f,d),psB,Z1,t,b,Z2,e3,S2,fun H3 RF S3 s3=>?_⟩
  have kp:∀{Z4:DS}{RG:St}{F u:Hp},SR K (f,d) psB Z4 RG F u->F D=some (.lst vs)/\u D=none/\(∀b o,A b=some o->¬gm psB b->F b=some o)/\(∀p o,u p=some o->gg j A p o):=fun {Z4 RG F u} B=>by
   refine⟨B.keep D _ U nl,?_,fun b o e l=>B.keep b o (kb b o e l) l,fun p o e=>?_⟩
   ·cases z:u D with
    | none=>rfl
    | some o =>
     rcases B.nw D o z with w|w|⟨ts,w⟩
     ·have w:d D=some o:=w;rw[hd] at w;exact nO w
     ·have w:f D=none:=w;rw[U] at w;contradiction
     ·subst w;have t1:=B.sub _ _ z;rw[B.keep D _ U nl] at t1;cases t1
   ·rcases B.nw p o e with w|w|w
    ·exact nb p o w
    ·exact .inr (.inl (base w))
    ·exact .inr (.inr w)
  cases b with
  | false =>
   simp only[qh,if_false] at h;split at h
   ·rename_i n2;obtain⟨a1,a2,a3,a4⟩:=kp S3;exact⟨items.length-(i+1),by omega,rfl,I,Z2,RF,G,vs,S3.rebase n2,n2,(sm.trans Q).trans s3,a3,a4,a1,ax.mono (Q.trans s3) Y,a2,h⟩
   ·exact nO h
  | true =>
   obtain⟨yd,Z3,e4,h⟩:=oB h;split at h
   ·rename_i hz;refine⟨(f,d),psB,Z2,RF,yd,Z3,e4,S3,fun v F u B s4 ry=>?_⟩
    obtain⟨a1,a2,a3,a4⟩:=kp B;have sa:=(Q.trans s3).trans s4;refine⟨vs,a1,by rw[Y.length];exact hz.1,items.length-(i+1),by omega,rfl,I,Z3,u,G++[yd],vs++[v],N _ B hz.2 a2,hz.2,sm.trans sa,fun b o e l=>?_,a4,aU,ax.append (ax.mono sa Y) ⟨v,[],rfl,ry,rfl⟩,a2,h⟩
    rw[aw (dh e T)];exact a3 b o e l
   ·exact nO h
 ·have ei:i=items.length:=by lia
  subst ei;rw[ZC] at h;cases h;exact .inl ⟨O.2 (eB _),RP k f d vs S sm kb nb U Y hd⟩
theorem Eo{caps:List (Option Nat)}{Z:DS}:noOwn (bX caps Z)=true:=by
 delta noOwn;rw[ia];intro s hs;obtain⟨k,d⟩:=List.getElem?_of_mem hs;cases s with
 | own c=>exact absurd d ls.1
 | _=>rfl
theorem Bj{caps:List (Option Nat)}{n:TI}{fi:IF}{g:GF}{fc:BF}{fe:DF}
 (y:∀(H0:Hp×Hp) (ps:Nat->Option dR) (Z:DS) (σ:St) (H Hi:Hp) (items:List Dat) (j:DS) (R:It->Hp->Prop),fi Z=some (items,j)->SR X.K H0 ps Z σ H Hi->(∀J m h,SR X.K H0 ps j σ m h->ag Hi h->JW X.K J items h->R J m)->n σ H R)
 (H0:Hp×Hp)(ps:Nat->Option dR)(Z:DS)(σ:St)(H Hi:Hp)(r:Res)(j:DS)(Q:VK)(f:dm caps none fi g fc fe Z=some (r,j))(S:SR X.K H0 ps Z σ H Hi)
 (k:∀v l d,SR X.K H0 ps j σ l d->ag Hi d->RR X.K H0 ps j σ l d v r->Q v l):rq (eJ caps) n (kS X.K g) (ky X.K fc) (kW X.K fe) σ H Q:=by
 obtain⟨items,Z1,A,f⟩:=oB f;dsimp only at f;obtain⟨q,Ze,B,f⟩:=oN f;obtain⟨rfl,rfl⟩:=sP f;refine y H0 ps Z σ H Hi items Z1 _ A S fun J m h C E F=>?_
 intro D t;obtain⟨Hi2,u,x⟩:=oj none caps C;refine DQ (NL u) Eo t (F.mono x) B fun σ' l d vs G sm kb I L M hd=>?_
 have N:ag m l:=fun b o e=>kb b o e (fun ⟨_,z⟩=>by exact nO z)
 obtain⟨O,T⟩:=u.after (r:=.own (.lst q)) N sm G.sub I ⟨D,rfl,⟨vs,L,M,hd⟩,t⟩;exact k (.ref D) l d O ((E.trans x).trans sm) T
theorem Pg{NB:List eA}{caps:List (Option Nat)}{scope:Ux}{elt iter f:gi}{ifs:List gi}{fi:IF}{g:GF}{fc:BF}{fe:DF}(j:X.calm=true)(B:i9 X.env.scope scope)(h:gv X.N NB scope caps=true)(k:cX X f iter fi)
 (l:∀(cl:List (eA×dR)) (C:dR) (d:dr) (H:Hp) (e:List dR),DG (bV X NB scope cl C d H e) f g)(m:∀(cl:List (eA×dR)) (C:dR) (d:dr) (H:Hp) (e:List dR),kn (bV X NB scope cl C d H e) ifs fc)
 (n:∀(cl:List (eA×dR)) (C:dR) (d:dr) (H:Hp) (e:List dR),DD (bV X NB scope cl C d H e) elt fe)(hs:∀x,r0 iter X.env x=pure x:=by intro _;rfl) :
  DE X (.ListComp elt [⟨f,iter,ifs,0⟩] scope pos) (dm caps none fi g fc fe):=by
 obtain⟨wi,o,q⟩:=k;exact⟨_,Eh (tc:=ky X.K fc) j B h o (fun cl C d H e=>⟨(l cl C d H e).lu,m cl C d H e,(n cl C d H e).lu⟩) hs,Bj q⟩
theorem Ha{NB:List eA}{caps:List (Option Nat)}{scope:Ux}{elt iter j:gi}{ifs:List gi}{fi:IF}{g:GF}{fc:BF}{fe:DF}{y:eA}{py h:u3}(i:Nat)(t:X.N.Nodup)(m:X.N[i]?=some y)(u:Loc X.env.scope y)
 (z:X.fn y=true\/X.env.scope.names.lookup y=some .local)(A:X.calm=true)(B:i9 X.env.scope scope)(l:gv X.N NB scope caps=true)(E:cX X j iter fi)
 (F:∀(cl:List (eA×dR)) (C:dR) (d:dr) (H:Hp) (f:List dR),DG (bV X NB scope cl C d H f) j g)(G:∀(cl:List (eA×dR)) (C:dR) (d:dr) (H:Hp) (f:List dR),kn (bV X NB scope cl C d H f) ifs fc)
 (I:∀(cl:List (eA×dR)) (C:dR) (d:dr) (H:Hp) (f:List dR),DD (bV X NB scope cl C d H f) elt fe)
 (n:xn (.ListComp elt [⟨j,iter,ifs,0⟩] scope pos) (some (.Name y py)) h.line X.env=pure true)(hs:∀x,r0 iter X.env x=pure x:=by intro _;rfl) :
  bU X (.Assign [.Name y py] (.ListComp elt [⟨j,iter,ifs,0⟩] scope pos) h) (gS i (dm caps none fi g fc fe)):=by
 obtain⟨wi,J,L⟩:=E;refine⟨_,M6 (g:=kS X.K g) (tc:=ky X.K fc) (te:=kW X.K fe) t m u A B l J (fun cl C d H f=>⟨(F cl C d H f).lu,G cl C d H f,(I cl C d H f).lu⟩) n hs z,fun H0 ps Z σ H Hi o D e S k=>?_⟩
 obtain⟨r,Z1,M,e⟩:=oB e;obtain⟨Z2,O,e⟩:=oM e;obtain rfl:=sO e;exact Bj L H0 ps Z σ H Hi r Z1 _ M S fun v Q q R s' T=>k _ Q q (R.put T O) s'
def Fw(K:fj)(ta tb:TE):TE:=fun σ H Q=>ta σ H fun x d=>∃c,oR K x d c/\if c=true then Q x d else tb σ d Q
def Q4(K:fj)(ta tb:TE):TE:=fun σ H Q=>ta σ H fun x d=>∃c,oR K x d c/\if c=true then tb σ d Q else Q x d
theorem Ho(k:PE X a ta)(l:PE X (.BoolOp .Or (b::rest) pos) tb):PE X (.BoolOp .Or (a::b::rest) pos) (Fw X.K ta tb):=by
 intro pins s σ H Q I h;refine BoolOp_or (aC (k pins s σ H _ I h) fun v m ⟨x,e,n,f,c,tc,g⟩=>?_)
 refine aC (wB pins m σ e x v (fun c' d=>c'=c/\d=e) n f ⟨c,tc,rfl,rfl⟩) fun c' o ⟨d,j,q,r⟩=>?_
 subst q r;cases c' with
 | false=>exact l pins o σ d Q j g
 | true=>exact⟨x,d,j,f,g⟩
theorem OK(k:PE X a ta)(l:PE X (.BoolOp .And (b::rest) pos) tb):PE X (.BoolOp .And (a::b::rest) pos) (Q4 X.K ta tb):=by
 intro pins s σ H Q I h;refine BoolOp_and (aC (k pins s σ H _ I h) fun v m ⟨x,e,n,f,c,tc,g⟩=>?_)
 refine aC (wB pins m σ e x v (fun c' d=>c'=c/\d=e) n f ⟨c,tc,rfl,rfl⟩) fun c' o ⟨d,j,q,r⟩=>?_
 subst q r;cases c' with
 | true=>exact l pins o σ d Q j g
 | false=>exact⟨x,d,j,f,g⟩
noncomputable def nR:Dat->Option Bool
 | .aB=>some false
 | .bl b=>some b
 | .int i=>some (i != 0)
 | .str x=>if x.length<=dk then some ((x.length:Int) != 0) else none
 | .lst ds=>some (!ds.isEmpty)
 | .tup ds=>some (!ds.isEmpty)
 | .bM d=>some (!d.isEmpty)
 | .exc _=>none
 | .ins _ _=>none
 | .bW _=>none
 | .adr _=>none
 | .dC _=>none
 | .aQ _ _=>none
theorem wC{d e:Type}{xs:List d}{ys:List e}(h:xs.length=ys.length):xs.isEmpty=ys.isEmpty:=by
 cases xs<;>cases ys<;>first|rfl|(simp at h)
theorem bu.length{K:fj}{H:Hp}:∀{d:List (eA×Dat)}{kvs:List (Key×V)},bu K H d kvs->kvs.length=d.length
 | [],_,h=>by rw[show _=[] from h];rfl
 | (_,_)::_,_,⟨v,r,e,q,t⟩=>by simp only[e,f',f',bu.length t]
theorem vf{K:fj}{H Hi:Hp}{d:Dat}{v:V}{c:Bool}(s:ag Hi H)(r:Rep K Hi d v)(e:nR d=some c):oR K v H c:=by
 cases d with
 | aB=>subst r;obtain rfl:=sO e;exact rfl
 | bl b=>subst r;obtain rfl:=sO e;exact rfl
 | int i=>subst r;obtain rfl:=sO e;exact rfl
 | str x =>
  subst r;have e:(if x.length<=dk then some ((x.length:Int) != 0) else none)=some c:=e
  split at e
  ·rename_i g;obtain rfl:=sO e;exact⟨g,rfl⟩
  ·exact nO e
 | lst ds =>
  obtain⟨p,vs,rfl,q,rs⟩:=r;cases e;exact .inl ⟨vs,.inl (Rd.mono s q),by rw[wC rs.length]⟩
 | tup ds =>
  obtain⟨p,vs,rfl,q,rs⟩:=r;cases e;exact .inr (.inl ⟨vs,aV.mono s q,by rw[wC rs.length]⟩)
 | bM f =>
  obtain⟨p,vs,rfl,q,rs⟩:=r;obtain rfl:=sO e;exact .inr (.inr ⟨vs,s _ _ q,by rw[wC (bu.length rs)]⟩)
 | exc C=>exact nO e
 | ins C fs=>exact nO e
 | bW ns=>exact nO e
 | adr p=>exact nO e
 | dC f=>exact nO e
 | aQ fz f=>exact nO e
def nK(f:DF):BF:=fun Z=>(f Z).bind fun p=>(nR p.1).map fun c=>(c,p.2)
noncomputable def fF(f:EF):BF:=fun Z=>(f Z).bind fun p=>match p.1 with
 | .dat (.bl b)=>some (b,p.2)
 | _=>none
noncomputable def p7(f:BF):BF:=fun Z=>(f Z).map fun p=>(!p.1,p.2)
noncomputable def lN(f g:BF):BF:=fun Z=>(f Z).bind fun p=>if p.1=true then g p.2 else some (false,p.2)
noncomputable def og(f g:BF):BF:=fun Z=>(f Z).bind fun p=>if p.1=true then some (true,p.2) else g p.2
def tj(f g:DF):DF:=fun Z=>(f Z).bind fun p=>(nR p.1).bind fun c=>if c=true then g p.2 else some p
def nG(f g:DF):DF:=fun Z=>(f Z).bind fun p=>(nR p.1).bind fun c=>if c=true then some p else g p.2
theorem P4{f:DF}(h:DD X a f)(m:∀g,Ym a X.env g=(do let v <-g;Xz a.pos;UR [v] (ZX v))):DT X a (nK f):=by
 obtain⟨t,p,q⟩:=h;refine⟨_,J3 p m,fun H0 ps Z σ H Hi c Z' Q e S k=>?_⟩
 obtain⟨d,Z1,n,e⟩:=oB e;obtain⟨c',o,e⟩:=oM e;obtain⟨rfl,rfl⟩:=sP e;exact q H0 ps Z σ H Hi d _ _ n S fun v u j l s' r=>⟨_,vf l.sub r o,k u j l s'⟩
theorem mf{op:X7}{r:R2}{d:Dat->Dat->Option Res}{f g:DF}(j:aI X (k7 op) r)(ho:eF X r d)(l:DD X a f)(m:DD X b g)(hm:sW op b=false):DT X (.Compare a [op] [b] pos) (fF (cw d f g)):=by
 obtain⟨ta,n,o⟩:=l;obtain⟨tb,q,t⟩:=m;refine⟨_,qU j n q hm,fun H0 ps Z σ H Hi c Z' Q e S k=>?_⟩
 obtain⟨rs,Z1,u,e⟩:=oB e;dsimp only at e;split at e
 ·obtain⟨rfl,rfl⟩:=sP e;exact vL ho o t H0 ps Z σ H Hi _ _ _ u S fun v x h y s' z=>⟨_,z,k x h y s'⟩
 ·exact nO e
theorem EU{f:BF}(h:DT X a f):DT X (.UnaryOp .Not a pos) (p7 f):=by
 obtain⟨t,p,q⟩:=h;refine⟨_,GJ p,fun H0 ps Z σ H Hi c Z' Q e S k=>?_⟩
 obtain⟨d,Z1,j,e⟩:=oN e;obtain⟨rfl,rfl⟩:=sP e;exact q H0 ps Z σ H Hi d _ _ j S fun l g m s'=>k l g m s'
theorem L'{f:BF}(h:DT X a f):DW X (.BoolOp .And [a] pos) f:=let ⟨t,p,q⟩:=h;⟨t,QS p,q⟩
theorem Gx{f:BF}(h:DT X a f):DW X (.BoolOp .Or [a] pos) f:=let ⟨t,p,q⟩:=h;⟨t,QH p,q⟩
theorem NP{f g:BF}(o:DT X a f)(q:DW X (.BoolOp .And (b::rest) pos) g):DW X (.BoolOp .And (a::b::rest) pos) (lN f g):=by
 obtain⟨t1,r,t⟩:=o;obtain⟨t2,u,v⟩:=q;refine⟨_,Gv r u,fun H0 ps Z σ H Hi c j Q e S k=>?_⟩
 obtain⟨d,Z1,x,e⟩:=oB e;refine t H0 ps Z σ H Hi d Z1 _ x S fun l h m s'=>?_
 cases d with
 | true=>exact v H0 ps Z1 σ l h c j Q e m fun y n z A=>k y n z (s'.trans A)
 | false =>
  obtain⟨rfl,rfl⟩:=sP e;exact k l h m s'
theorem Qt{f g:BF}(o:DT X a f)(q:DW X (.BoolOp .Or (b::rest) pos) g):DW X (.BoolOp .Or (a::b::rest) pos) (og f g):=by
 obtain⟨t1,r,t⟩:=o;obtain⟨t2,u,v⟩:=q;refine⟨_,MH r u,fun H0 ps Z σ H Hi c j Q e S k=>?_⟩
 obtain⟨d,Z1,x,e⟩:=oB e;refine t H0 ps Z σ H Hi d Z1 _ x S fun l h m s'=>?_
 cases d with
 | false=>exact v H0 ps Z1 σ l h c j Q e m fun y n z A=>k y n z (s'.trans A)
 | true =>
  obtain⟨rfl,rfl⟩:=sP e;exact k l h m s'
theorem MU{op}{f:DF}(h:DD X a f):DD X (.BoolOp op [a] pos) f:=let ⟨t,p,q⟩:=h;⟨t,NH p,q⟩
theorem MG{f g:DF}(o:DD X a f)(q:DD X (.BoolOp .And (b::rest) pos) g):DD X (.BoolOp .And (a::b::rest) pos) (tj f g):=by
 obtain⟨t1,t,u⟩:=o;obtain⟨t2,x,y⟩:=q;refine⟨_,OK t x,fun H0 ps Z σ H Hi c l Q e S k=>?_⟩
 obtain⟨d,Z1,z,e⟩:=oB e;obtain⟨c',A,e⟩:=oA e;refine u H0 ps Z σ H Hi d Z1 _ z S fun v m h j s' r=>⟨c',vf j.sub r A,?_⟩
 cases c' with
 | true=>exact y H0 ps Z1 σ m h c l Q e j fun B C n D E F=>k B C n D (s'.trans E) F
 | false =>
  obtain⟨rfl,rfl⟩:=sP e;exact k v m h j s' r
theorem GV{f g:DF}(o:DD X a f)(q:DD X (.BoolOp .Or (b::rest) pos) g):DD X (.BoolOp .Or (a::b::rest) pos) (nG f g):=by
 obtain⟨t1,t,u⟩:=o;obtain⟨t2,x,y⟩:=q;refine⟨_,Ho t x,fun H0 ps Z σ H Hi c l Q e S k=>?_⟩
 obtain⟨d,Z1,z,e⟩:=oB e;obtain⟨c',A,e⟩:=oA e;refine u H0 ps Z σ H Hi d Z1 _ z S fun v m h j s' r=>⟨c',vf j.sub r A,?_⟩
 cases c' with
 | false=>exact y H0 ps Z1 σ m h c l Q e j fun B C n D E F=>k B C n D (s'.trans E) F
 | true =>
  obtain⟨rfl,rfl⟩:=sP e;exact k v m h j s' r
mutual
noncomputable def toPy:Dat->PyData
 | .aB=>.none
 | .bl b=>.bool b
 | .int i=>.int i
 | .str x=>.str x
 | .tup xs=>.tuple (cy xs)
 | .lst xs=>.list (cy xs)
 | .bM _=>.dict []
 | .exc _=>.none
 | .ins _ _=>.none
 | .bW _=>.none
 | .adr _=>.none
 | .dC _=>.none
 | .aQ _ _=>.none
noncomputable def cy:List Dat->List PyData
 | []=>[]
 | d::r=>toPy d::cy r
end
mutual
/-- no dict within -/
noncomputable def jH:Dat->Bool
 | .tup xs=>jh xs
 | .lst xs=>jh xs
 | .bM _=>false
 | .exc _=>false
 | .ins _ _=>false
 | .bW _=>false
 | .adr _=>false
 | .dC _=>false
 | .aQ _ _=>false
 | _=>true
noncomputable def jh:List Dat->Bool
 | []=>true
 | d::r=>jH d&&jh r
end
mutual
theorem je(I:Inv X pins σ H s)(sm:ag Hi H):∀{d:Dat}{v:V}{u:bR},jH d=true->Rep X.K Hi d v->RelV v u->∃e,Reads s.heap u (toPy d) e
 | .aB,_,_,_,r,q=>by
  cases r
  cases q
  exact⟨_,.none⟩
 | .bl b,_,_,_,r,q=>by
  cases r
  cases q
  exact⟨_,.bool b⟩
 | .int i,_,_,_,r,q=>by
  cases r
  obtain⟨t,rfl⟩:=q
  exact⟨_,.int i t⟩
 | .str x,_,_,_,r,q=>by
  cases r
  obtain⟨t,rfl⟩:=q
  exact⟨_,.str x t⟩
 | .tup ds,_,_,p,r,q=>by
  obtain⟨a,vs,rfl,g,rs⟩:=r
  cases q
  obtain⟨its,j,⟨o,f,k,n,l⟩,_⟩:=I.tuple (aV.mono sm g)
  obtain⟨e,h⟩:=tN I sm (show jh ds=true from p) rs j
  exact⟨_,.tuple f k l (by simpa using h)⟩
 | .lst ds,_,_,p,r,q=>by
  obtain⟨a,vs,rfl,g,rs⟩:=r
  cases q
  obtain⟨z,its,n,j,f⟩:=(Rd.mono sm g).ok I.ai
  obtain⟨e,h⟩:=tN I sm (show jh ds=true from p) rs j
  exact⟨_,.list f rfl rfl (by simpa using h)⟩
 | .bM _,_,_,p,_,_=>by cases p
 | .exc _,_,_,p,_,_=>by cases p
 | .ins _ _,_,_,p,_,_=>by cases p
 | .bW _,_,_,p,_,_=>by cases p
 | .adr _,_,_,p,_,_=>by cases p
 | .dC _,_,_,p,_,_=>by cases p
 | .aQ _ _,_,_,p,_,_=>by cases p
theorem tN(I:Inv X pins σ H s)(sm:ag Hi H):∀{ds:List Dat}{vs:List V}{us:List bR},jh ds=true->ax X.K Hi ds vs->aD vs us->∃e,ReadsAll s.heap us (cy ds) e
 | [],_,_,_,r,q=>by
  cases (show _=[] from r)
  cases q
  exact⟨_,.nil⟩
 | d::ds,_,_,p,r,q=>by
  obtain⟨v,vr,rfl,m,y⟩:=r
  cases q with
  | cons A B =>
   have p:=kH.mp (show (jH d&&jh ds)=true from p)
   obtain⟨e,f⟩:=je I sm p.1 m A
   obtain⟨bs,k⟩:=tN I sm p.2 y B
   exact⟨_,.cons f k⟩
end
def bH(d:Dat):Bool:=jH d&&aaa (toPy d)
def dw(d e:Dat):Bool:=va (toPy d) (toPy e)
noncomputable def Dl(neg:Bool):Dat->Dat->Option Res
 | .lst (_::_),.lst []=>some (.dat (.bl neg))
 | _,_=>none
def eX(neg:Bool):Dat->Dat->Option Res:=fun d e=>if bH d&&bH e then some (.dat (.bl (if neg then !dw d e else dw d e))) else Dl neg d e
def vS(K:fj)(neg:Bool):R2:=fun x y H Q=>∃Hi d e,ag Hi H/\Rep K Hi d x/\Rep K Hi e y/\bH d=true/\bH e=true/\Q (.bl (if neg then !dw d e else dw d e)) H
def xI(neg:Bool):R2:=fun x y H Q=>∃l b z d,x=.ref l/\y=.ref b/\Rd H l (.lst (z::d))/\Rd H b (.lst [])/\Q (.bl neg) H
def ui(K:fj)(neg:Bool):R2:=fun x y H Q=>vS K neg x y H Q\/xI neg x y H Q
theorem HD(j:X.A.units+64<uz):aI X (k7 .Eq) (vS X.K false):=by
 intro pins s σ H x y v u Q I k l h;obtain⟨Hi,d,e,sm,m,n,f,g,q⟩:=h;have f:=kH.mp f;have g:=kH.mp g;obtain⟨as,o⟩:=je I sm f.1 m k;obtain⟨bs,r⟩:=je I sm g.1 n l;exact eq_dataH o r f.2 g.2 j ⟨.bl (dw d e),H,I,rfl,q⟩
theorem NA(j:X.A.units+64<uz):aI X (k7 .NotEq) (vS X.K true):=by
 intro pins s σ H x y v u Q I k l h;obtain⟨Hi,d,e,sm,m,n,f,g,q⟩:=h;have f:=kH.mp f;have g:=kH.mp g;obtain⟨as,o⟩:=je I sm f.1 m k;obtain⟨bs,r⟩:=je I sm g.1 n l;exact ne_dataH o r f.2 g.2 j ⟨.bl (!dw d e),H,I,rfl,q⟩
theorem Ay{pins:List (dR×wm)}{σ:St}{H:Hp}{s:dr}(I:Inv X pins σ H s){l b:dR}{z:V}{h:List V}(j:Rd H l (.lst (z::h)))(k:Rd H b (.lst [])):∃f g:Array bR,s.heap.IsList l f/\s.heap.IsList b g/\(f.size != g.size)=true:=by
 obtain⟨z1,its,n,r,e⟩:=j.ok I.ai;obtain⟨z2,d,m,o,q⟩:=k.ok I.ai;have t:=r.length;have u:=o.length;refine⟨its.toArray,d.toArray,⟨_,e,rfl,n,rfl⟩,⟨_,q,rfl,m,rfl⟩,?_⟩;simp only[eT,<-t,<-u];rfl
theorem Nv(hu:X.A.units+64<uz):aI X (k7 .Eq) (xI false):=by
 intro pins s σ H x y v u Q I d e h;obtain⟨l,b,z,zs,rfl,rfl,f,g,q⟩:=h;subst d;subst e;obtain⟨i1,i2,a,c,j⟩:=Ay I f g;exact abr a c j (by lia) _ _ _ _ ⟨.bl false,H,I,rfl,q⟩
theorem Jy(hu:X.A.units+64<uz):aI X (k7 .NotEq) (xI true):=by
 intro pins s σ H x y v u Q I d e h;obtain⟨l,b,z,zs,rfl,rfl,f,g,q⟩:=h;subst d;subst e;obtain⟨i1,i2,a,c,j⟩:=Ay I f g;exact aaS a c j (by lia) _ _ _ _ ⟨.bl true,H,I,rfl,q⟩
theorem Ep(d:X.A.units+64<uz):aI X (k7 .Eq) (ui X.K false):=aI.or (HD d) (Nv d)
theorem zx(d:X.A.units+64<uz):aI X (k7 .NotEq) (ui X.K true):=aI.or (NA d) (Jy d)
theorem rB{neg:Bool}:eF X (ui X.K neg) (eX neg):=by
 intro H0 ps Z σ H Hi x y d d' o Q e S g h k;delta eX at e;split at e
 ·rename_i f;have f:=kH.mp f;obtain rfl:=sO e;exact .inl ⟨Hi,d,d',S.sub,g,h,f.1,f.2,k _ H Hi S (ag.refl _) rfl⟩
 ·delta Dl at e;split at e
  ·obtain rfl:=sO e;obtain⟨p,vs,rfl,j,l⟩:=g;obtain⟨m,n,rfl,q,r⟩:=h;obtain⟨z,t,rfl,_,_⟩:=l;cases (r)
   exact .inr ⟨p,m,z,t,rfl,rfl,Rd.mono S.sub j,Rd.mono S.sub q,k _ H Hi S (ag.refl _) rfl⟩
  ·exact nO e
def inD(d:Dat)(ds:List Dat):Bool:=(cy ds).any fun y=>va y (toPy d)
def oV(neg:Bool):Dat->Dat->Option Res
 | d,.lst ds=>if bH d&&bH (.lst ds) then some (.dat (.bl (if neg then !inD d ds else inD d ds))) else none
 | d,.tup ds=>if bH d&&bH (.tup ds) then some (.dat (.bl (if neg then !inD d ds else inD d ds))) else none
 | .str x,.str y=>some (.dat (.bl (if neg then !(!(vT y x 0 y.length 1).isEmpty) else !(vT y x 0 y.length 1).isEmpty)))
 | _,_=>none
def wG(K:fj)(neg:Bool):R2:=fun x y H Q=>∃Hi d ds c,(c=.lst ds\/c=.tup ds)/\ag Hi H/\Rep K Hi d x/\Rep K Hi c y/\bH d=true/\bH c=true/\Q (.bl (if neg then !inD d ds else inD d ds)) H
def oh(K:fj)(neg:Bool):R2:=fun x y H Q=>wG K neg x y H Q\/(fun x y H Q=>∃i j,x=.str i/\y=.str j/\Q (.bl (if neg then !(!(vT j i 0 j.length 1).isEmpty) else !(vT j i 0 j.length 1).isEmpty)) H) x y H Q
theorem QM(g:X.A.units+65<uz):aI X (k7 .In) (wG X.K false):=by
 intro pins s σ H x y v u Q I l m h;obtain⟨Hi,d,ds,c,n,sm,o,r,e,f,q⟩:=h;have e:=kH.mp e;have f:=kH.mp f;obtain⟨as,j⟩:=je I sm e.1 o l;obtain⟨bs,k⟩:=je I sm f.1 r m
 rcases n with rfl|rfl
 ·exact SeqAt.in_list_reads k j (pe f.2) (pe e.2) (Wa e.2 g) ⟨.bl (inD d ds),H,I,rfl,q⟩
 ·exact SeqAt.in_tuple_reads k j (pe f.2) (pe e.2) (Wa e.2 g) ⟨.bl (inD d ds),H,I,rfl,q⟩
theorem Lh(g:X.A.units+65<uz):aI X (k7 .NotIn) (wG X.K true):=by
 intro pins s σ H x y v u Q I l m h;obtain⟨Hi,d,ds,c,n,sm,o,r,e,f,q⟩:=h;have e:=kH.mp e;have f:=kH.mp f;obtain⟨as,j⟩:=je I sm e.1 o l;obtain⟨bs,k⟩:=je I sm f.1 r m
 rcases n with rfl|rfl
 ·exact SeqAt.notIn_list_reads k j (pe f.2) (pe e.2) (Wa e.2 g) ⟨.bl (!inD d ds),H,I,rfl,q⟩
 ·exact SeqAt.notIn_tuple_reads k j (pe f.2) (pe e.2) (Wa e.2 g) ⟨.bl (!inD d ds),H,I,rfl,q⟩
theorem QI(d:X.A.units+65<uz):aI X (k7 .In) (oh X.K false):=aI.or (QM d) HG
theorem Lj(d:X.A.units+65<uz):aI X (k7 .NotIn) (oh X.K true):=aI.or (Lh d) Qe
theorem Lq{neg:Bool}:eF X (oh X.K neg) (oV neg):=by
 intro H0 ps Z σ H Hi x y d d' o Q e S g h k;delta oV at e;split at e
 ·split at e
  ·rename_i f;have f:=kH.mp f;cases e;exact .inl ⟨Hi,d,_,_,.inl rfl,S.sub,g,h,f.1,f.2,k _ H Hi S (ag.refl _) rfl⟩
  ·exact nO e
 ·split at e
  ·rename_i f;have f:=kH.mp f;cases e;exact .inl ⟨Hi,d,_,_,.inr rfl,S.sub,g,h,f.1,f.2,k _ H Hi S (ag.refl _) rfl⟩
  ·exact nO e
 ·obtain rfl:=sO e;subst g;subst h;exact .inr ⟨_,_,rfl,rfl,k _ H Hi S (ag.refl _) rfl⟩
 ·exact nO e
noncomputable def vt:Dat->Bool
 | .aB=>true
 | _=>false
def xH(neg:Bool):Dat->Dat->Option Res
 | d,.aB=>some (.dat (.bl (if neg then !vt d else vt d)))
 | _,_=>none
theorem M5{K:fj}{H:Hp}{d:Dat}{v:V}(r:Rep K H d v):decide (v=.aB)=vt d:=by
 cases d with
 | aB=>subst r;rfl
 | tup _=>obtain⟨p,vs,rfl,_⟩:=r;rfl
 | lst _=>obtain⟨p,vs,rfl,_⟩:=r;rfl
 | bM _=>obtain⟨p,vs,rfl,_⟩:=r;rfl
 | exc _=>obtain⟨p,rfl,_⟩:=r;rfl
 | ins _ _=>obtain⟨p,dx,vs,rfl,_⟩:=r;rfl
 | bW _=>obtain⟨p,rfl,_⟩:=r;rfl
 | dC _=>obtain⟨p,o,vs,rfl,_⟩:=r;rfl
 | aQ _ _=>obtain⟨p,o,vs,rfl,_⟩:=r;rfl
 | _=>subst r;rfl
theorem Jv:eF X (fun x y H Q=>y=.aB/\Q (.bl (decide (x=.aB))) H) (xH false):=by
 intro H0 ps Z σ H Hi x y d d' o Q e S f g k;unfold xH at e;split at e
 ·obtain rfl:=sO e;subst g;exact⟨rfl,k _ H Hi S (ag.refl _) (by show V.bl _=V.bl _;rw[M5 f];rfl)⟩
 ·exact nO e
noncomputable def kindAt(io:Bool)(c:Dat):Slot:=if io then .io c else .own c
noncomputable def ownOf:Slot->Option (Bool×Dat)
 | .own c=>some (false,c)
 | .io c=>some (true,c)
 | _=>none
theorem qL{s:Slot}{b:Bool}{c:Dat}(h:ownOf s=some (b,c)):s=kindAt b c:=by
 cases s<;>cases h<;>rfl
theorem SR.at(S:SR K H0 ps Z σ H Hi)(e:Z[i]?=some (kindAt io c)):∃p,σ[i]?=some (some (.ref p))/\cx K H Hi p c:=by
 cases io with
 | false=>obtain⟨p,a,b,_⟩:=S.own i c e;exact⟨p,a,b⟩
 | true=>obtain⟨p,a,b,_⟩:=S.io i c e;exact⟨p,a,b⟩
theorem SR.write{o:HO}(S:SR K H0 ps Z σ H Hi)(e:Z[i]?=some (kindAt io c))(ep:σ[i]?=some (some (.ref p)))(ho:cx K (upd H p o) Hi p c'):SR K H0 ps (Z.set i (kindAt io c')) σ (upd H p o) Hi:=by
 have v:=(bt.mp e).1;have x:Z[i]?=some (.own c)\/Z[i]?=some (.io c):=by
  cases io with
  | false=>exact .inl e
  | true=>exact .inr e
 have y:¬gm ps p->H0.1 p=none:=fun nl=>by
  cases io with
  | false =>
   obtain⟨q,a,b,g,r⟩:=S.own i c e;rw[ep] at a;cases a;exact r
  | true =>
   obtain⟨q,a,b,g⟩:=S.io i c e;rw[ep] at a;cases a;exact absurd ⟨i,g⟩ nl
 have other:∀{j:Nat}{s:Slot},j≠i->(Z.set i (kindAt io c'))[j]?=some s->Z[j]?=some s:=fun {j s} f h=>by
  rw[kx (Ne.symm f)] at h;exact h
 have XG:∀{s:Slot},(Z.set i (kindAt io c'))[i]?=some s->s=kindAt io c':=fun {s} h=>by
  rw[lp v] at h;exact (Option.some.inj h).symm
 have ne:∀{j:Nat}{d:Dat}{q:dR},j≠i->(Z[j]?=some (.own d)\/Z[j]?=some (.io d))->σ[j]?=some (some (.ref q))->q≠p:=fun {j d q} f h a z=>by
  subst z;exact f (S.ne j i d c q h x a ep)
 refine⟨rM S.sub ho.some.2,fun b u t n=>?_,fun q l=>?_,fun j d h=>?_,fun j d h=>?_,fun j d h=>?_,fun j k d d' q A B C D=>?_,by rw[zb];exact S.len,S.nw⟩
 ·have E:b≠p:=fun z=>by
   subst z;rw[y n] at t;exact nO t
  rw[aw E];exact S.keep b u t n
 ·by_cases m:q=p
  ·subst m;rw[aU];simp
  ·rw[aw m];exact S.fw q l
 ·have f:j≠i:=fun z=>by
   subst z;have:=XG h;cases io<;>contradiction
  exact S.dat j d (other f h)
 ·by_cases f:j=i
  ·subst f;have:=XG h;cases io with
   | false =>
    cases this;obtain⟨q,a,b,g,r⟩:=S.own j c e;rw[ep] at a;cases a;exact⟨p,ep,ho,g,r⟩
   | true=>cases this
  ·obtain⟨q,a,b,g,r⟩:=S.own j d (other f h);have m:=ne f (.inl (other f h)) a;exact⟨q,a,b.keeps (aw m) (ag.refl _) b.some.2,g,r⟩
 ·by_cases f:j=i
  ·subst f;have:=XG h;cases io with
   | true =>
    cases this;obtain⟨q,a,b,g⟩:=S.io j c e;rw[ep] at a;cases a;exact⟨p,ep,ho,g⟩
   | false=>contradiction
  ·obtain⟨q,a,b,g⟩:=S.io j d (other f h);have m:=ne f (.inr (other f h)) a;exact⟨q,a,b.keeps (aw m) (ag.refl _) b.some.2,g⟩
 ·have back:∀{j:Nat}{d:Dat},((Z.set i (kindAt io c'))[j]?=some (.own d)\/(Z.set i (kindAt io c'))[j]?=some (.io d))->∃d',Z[j]?=some (.own d')\/Z[j]?=some (.io d'):=fun {j d} h=>by
   by_cases f:j=i
   ·subst f;exact⟨c,x⟩
   ·exact⟨d,h.imp (other f) (other f)⟩
  obtain⟨F,G⟩:=back A;obtain⟨I,J⟩:=back B;exact S.ne j k F I q G J C D
def MD(K:fj)(T:String)(r:V->List V->Hp->VK->Prop)(e:Dat->List Dat->Option (Dat×Dat)):Prop:=∀(H Hi:Hp) (p:dR) (c:Dat) (ds:List Dat) (vs:List V) (d c':Dat) (Q:VK),e c ds=some (d,c')->ag Hi H->cx K H Hi p c->ax K Hi ds vs ->
 (∀v o,cx K (upd H p o) Hi p c'->Rep K Hi d v->Q v (upd H p o))->r (.ref p) vs H Q
noncomputable def Hc:Dat->Bool
 | .lst _=>true
 | _=>false
def jQ(i:Nat)(d:Dat->List Dat->Option (Dat×Dat))(fa:AF):DF:=fun Z=>((Z[i]?).bind ownOf).bind fun s=>if Hc s.2=true then (fa Z).bind fun p=>((p.2[i]?).bind ownOf).bind fun t=>(d t.2 p.1).map fun q=>(q.1,p.2.set i (kindAt t.1 q.2)) else none
theorem Mo{i:Nat}{j:Dat->List Dat->Option (Dat×Dat)}{fa:AF}{Z k:DS}{d:Dat}(h:jQ i j fa Z=some (d,k)) :
  ∃io c ds Z1 e f c',Z[i]?=some (kindAt io (.lst c))/\fa Z=some (ds,Z1)/\Z1[i]?=some (kindAt e f)/\j f ds=some (d,c')/\k=Z1.set i (kindAt e c'):=by
 delta jQ at h;cases l:Z[i]? with
 | none=>rw[l] at h;exact nO h
 | some s =>
  rw[l] at h;obtain⟨io,c,n,h⟩:=oB h;dsimp only at h;split at h
  ·cases m:fa Z with
   | none=>rw[m] at h;exact nO h
   | some p =>
    obtain⟨ds,Z1⟩:=p;rw[m] at h;simp at h;cases g:Z1[i]? with
    | none=>rw[g] at h;exact nO h
    | some s1 =>
     rw[g] at h;obtain⟨e,f,o,h⟩:=oB h;obtain⟨d',c',q,h⟩:=oN h;dsimp only at h;obtain⟨rfl,rfl⟩:=sP h;cases c with
     | lst c=>exact⟨io,c,ds,Z1,e,f,c',by rw[qL n],rfl,by rw[g,qL o],q,rfl⟩
     | _=>contradiction
  ·exact nO h
theorem N3{x m:eA}{e:gi}{f:List gi}{l:u3}{r:V->List V->Hp->VK->Prop}{n:Dat->List Dat->Option (Dat×Dat)}{fa:AF}(i:Nat)(hN:X.N[i]?=some x)(hv:cc X.env.scope x)
 (A:∀{t:TA},PA X (e::f) t->PE X (.Call (.Attribute (.Name x l) m apos) (e::f) [] pos) (rZ X.K "list" r (tG i) t))(hm:MD X.K "list" r n)(B:DA X (e::f) fa):DD X (.Call (.Attribute (.Name x l) m apos) (e::f) [] pos) (jQ i n fa):=by
 obtain⟨t,p,q⟩:=B;refine⟨_,A p,fun H0 ps Z σ H Hi d Z' Q C S k=>?_⟩
 obtain⟨io,c,ds,Z1,io',D,c',E,F,u,G,rfl⟩:=Mo C;obtain⟨a,h,I⟩:=S.at E;obtain⟨y,J,_,_⟩:=I;refine⟨.ref a,h,.inl ⟨rfl,y,cf.of J⟩,?_⟩;refine q H0 ps Z σ H Hi ds Z1 _ F S fun vs L g j M O=>?_
 obtain⟨b,z,ob⟩:=j.at u;rw[h] at z;cases z;exact hm L g a D ds vs d c' Q G j.sub ob O fun v o o1 R=>k v _ g (j.write u h o1) M R
noncomputable def nV:Dat->List Dat->Option (Dat×Dat)
 | .lst xs,[d]=>if xs.length<dk then some (.aB,.lst (xs++[d])) else none
 | _,_=>none
theorem Oh{K:fj}:MD K "list" zN nV:=by
 intro H Hi p c ds vs d c' Q e sm ho r k;delta nV at e;split at e
 ·split at e
  ·rename_i g;obtain⟨rfl,rfl⟩:=sP e;obtain⟨h,j,f,l⟩:=ho;obtain⟨v,vr,rfl,m,n⟩:=r;subst n;exact⟨p,h,v,rfl,rfl,j,by rw[f.length];exact g,k .aB _ ⟨_,aU,ax.append f ⟨v,[],rfl,m,rfl⟩,l⟩ rfl⟩
  ·exact nO e
 ·exact nO e
theorem Oy{x:eA}{e:gi}{d:u3}{fa:AF}(i:Nat)(k:X.N[i]?=some x)(l:cc X.env.scope x)(n:DA X [e] fa)(hd:bb x:=by decide)(m:cH x:=by decide)
 (f:VH (.Name x d) "append" X.env (eval (.Name x d) X.env)=eval (.Name x d) X.env:=by rfl)
 (j:pU X pos e:=by rfl)
 (g:(apos.endLine==pos.line)=true:=by rfl)(hs:bp X e []:=by rfl):DD X (.Call (.Attribute (.Name x d) "append" apos) [e] [] pos) (jQ i nV fa) :=
 N3 i k l (fun h=>sN XQ Yu PySem.F.type_list_append Df (fg k l hd m) h f j g hs rfl) Oh n
end
def CD(X:Cx)(r:List V->Hp->VK->Prop)(g:List Dat->Option Res):Prop:=∀(b:Hp×Hp) (c:Nat->Option dR) (Z:DS) (d:St) (H e:Hp) (vs:List V) (ds:List Dat) (o:Res) (Q:VK),g ds=some o->SR X.K b c Z d H e->ax X.K e ds vs ->
 (∀v f a,SR X.K b c Z d f a->ag e a->RR X.K b c Z d f a v o->Q v f)->r vs H Q
section
variable{X:Cx}{pos p:u3}{x:eA}{id T:String}{r:List V->Hp->VK->Prop}{fo:List Dat->Option Res}{e:gi}{es:List gi}{fa:AF}{K:fj}{H0:Hp×Hp}{ps:Nat->Option dR}{Z:DS}{σ:St}{H Hi:Hp}{i:Nat}{d:Dat}{v:V}{a b:gi}{P:iN}{w:nE}{mg:eA->Option bR}{base:nS}{f g:DF}{p2:u3}
theorem zr{t:TA}(s:CD X r fo)
 (q:∀(H0:Hp×Hp) (ps:Nat->Option dR) (Z:DS) (σ:St) (H Hi:Hp) (ds:List Dat) (h:DS) (Q:List V->Hp->Prop),fa Z=some (ds,h)->SR X.K H0 ps Z σ H Hi->(∀vs j c,SR X.K H0 ps h σ j c->ag Hi c->ax X.K c ds vs->Q vs j)->t σ H Q)
 (H0:Hp×Hp)(ps:Nat->Option dR)(Z:DS)(σ:St)(H Hi:Hp)(o:Res)(h:DS)(Q:VK)(l:bY fo fa Z=some (o,h))(S:SR X.K H0 ps Z σ H Hi)
 (k:∀v j c,SR X.K H0 ps h σ j c->ag Hi c->RR X.K H0 ps h σ j c v o->Q v j):ur r t σ H Q:=by
 obtain⟨ds,Z1,u,l⟩:=oB l;obtain⟨r2,y,l⟩:=oM l;obtain⟨rfl,rfl⟩:=sP l;refine q H0 ps Z σ H Hi ds _ _ u S fun vs z m A B C=>?_
 exact s H0 ps _ σ z m vs ds _ Q y A C fun v D n E F G=>k v D n E (B.trans F) G
theorem jK(j:bK X (.builtin id) r)(k:CD X r fo)(l:Gl X x)(hm:X.mg x=none)(m:Hz x=some (.builtin id))(n:DA X (e::es) fa)(o:x≠"__name__":=by decide)(c:bb x:=by decide)
 (s:bp X e es:=by rfl)(h:(KX pos (lq es X.env)).any (·.1)=false:=by rfl):DE X (.Call (.Name x p) (e::es) [] pos) (bY fo fa):=by
 obtain⟨t,u,q⟩:=n;exact⟨_,mT j l hm m u o c s h,zr k q⟩
theorem qX(j:bK X (.type T) r)(k:CD X r fo)(l:Gl X x)(hm:X.mg x=none)(m:Hz x=some (.type T))(n:DA X (e::es) fa)(o:x≠"__name__":=by decide)(c:bb x:=by decide)
 (s:bp X e es:=by rfl)(h:(KX pos (lq es X.env)).any (·.1)=false:=by rfl):DE X (.Call (.Name x p) (e::es) [] pos) (bY fo fa):=by
 obtain⟨t,u,q⟩:=n;exact⟨_,yf j l hm m u o c s h,zr k q⟩
noncomputable def tJ:List Dat->Option Res
 | [.int i]=>some (.dat (.int (if i<0 then -i else i)))
 | _=>none
theorem MQ:CD X (fun xs H Q=>∃i,xs=[.int i]/\Q (.int (if i<0 then -i else i)) H) tJ:=by
 intro H0 ps Z σ H Hi vs ds o Q e S r k;delta tJ at e;split at e
 ·obtain rfl:=sO e;obtain⟨v,vr,rfl,c,h⟩:=r;subst c;subst h;exact⟨_,rfl,k _ H Hi S (ag.refl _) rfl⟩
 ·exact nO e
noncomputable def mC:List Dat->Option Res
 | [.int i]=>some (.dat (.int i))
 | [.bl b]=>some (.dat (.int (if b then 1 else 0)))
 | _=>none
theorem KQ:CD X (fun xs H Q=>(∃i,xs=[.int i]/\Q (.int i) H)\/∃k,xs=[.bl k]/\Q (.int (if k then 1 else 0)) H) mC:=by
 intro H0 ps Z σ H Hi vs ds o Q e S r k;delta mC at e;split at e
 ·cases e;obtain⟨v,j,rfl,c,h⟩:=r;cases c;subst h;exact .inl ⟨_,rfl,k _ H Hi S (ag.refl _) rfl⟩
 ·cases e;obtain⟨v,j,rfl,c,h⟩:=r;subst c;subst h;exact .inr ⟨_,rfl,k _ H Hi S (ag.refl _) rfl⟩
 ·exact nO e
noncomputable def qS:List Dat->Option Res
 | [.int i,.int j]=>some (.dat (.int (if j<i then j else i)))
 | _=>none
noncomputable def xu:List Dat->Option Res
 | [.int i,.int j]=>some (.dat (.int (if j>i then j else i)))
 | _=>none
theorem M':CD X (fun xs H Q=>∃i j,xs=[.int i,.int j]/\Q (.int (if j<i then j else i)) H) qS:=by
 intro H0 ps Z σ H Hi vs ds o Q e S r k;delta qS at e;split at e
 ·obtain rfl:=sO e;obtain⟨v,vr,rfl,h,w,wr,rfl,c,l⟩:=r;subst h;subst c;subst l;exact⟨_,_,rfl,k _ H Hi S (ag.refl _) rfl⟩
 ·exact nO e
theorem PJ:CD X (fun xs H Q=>∃i j,xs=[.int i,.int j]/\Q (.int (if j>i then j else i)) H) xu:=by
 intro H0 ps Z σ H Hi vs ds o Q e S r k;delta xu at e;split at e
 ·obtain rfl:=sO e;obtain⟨v,vr,rfl,h,w,wr,rfl,c,l⟩:=r;subst h;subst c;subst l;exact⟨_,_,rfl,k _ H Hi S (ag.refl _) rfl⟩
 ·exact nO e
noncomputable def cD:Dat->Option Nat
 | .lst ds=>some ds.length
 | .tup ds=>some ds.length
 | .bM c=>some c.length
 | .dC c=>some c.length
 | .str x=>if x.length<=dk then some x.length else none
 | _=>none
def wX:List Dat->Option Res
 | [d]=>(cD d).map fun n:Nat=>.dat (.int (n:Int))
 | _=>none
def wF(K:fj):List V->Hp->VK->Prop:=fun xs H Q=>(∃p ys,xs=[.ref p]/\(cf K H p ys\/aV K H p ys)/\Q (.int ys.length) H)\/(fun xs H Q=>(fun xs H Q=>(∃z,xs=[.str z]/\z.length<=dk/\Q (.int z.length) H)) xs H Q\/(fun xs H Q=>∃a kvs,xs=[.ref a]/\Rd H a (.dK kvs)/\Q (.int kvs.length) H) xs H Q) xs H Q
theorem HL:bK X (.builtin "len") (fun xs H Q=>∃a kvs,xs=[V.ref a]/\Rd H a (.dK kvs)/\Q (.int kvs.length) H):=by
 intro pins s σ H xs us Q I r h;obtain⟨a,kvs,rfl,c,q⟩:=h;obtain⟨u,rfl,j⟩:=vals1 r;subst j;exact QT I c fun t s' k=>⟨.int kvs.length,H,k,⟨t,rfl⟩,q⟩
theorem El:bK X (.builtin "len") (wF X.K):=bK.or ME (bK.or G4 HL)
theorem MV:CD X (wF X.K) wX:=by
 intro H0 ps Z σ H Hi vs ds o Q e S r k;delta wX at e;split at e
 ·rename_i d;obtain⟨v,vr,rfl,h,j⟩:=r;subst j;cases d with
  | lst ds =>
   cases e;obtain⟨p,c,rfl,q,rs⟩:=h;refine .inl ⟨p,c,rfl,.inl (.inl (Rd.mono S.sub q)),k _ H Hi S (ag.refl _) ?_⟩;show V.int _=V.int _;rw[rs.length]
  | tup ds =>
   cases e;obtain⟨p,c,rfl,q,rs⟩:=h;refine .inl ⟨p,c,rfl,.inr (aV.mono S.sub q),k _ H Hi S (ag.refl _) ?_⟩;show V.int _=V.int _;rw[rs.length]
  | str x =>
   subst h;have e:(if x.length<=dk then some x.length else none).map (fun n:Nat=>Res.dat (.int n))=some o:=e
   split at e
   ·rename_i l;obtain rfl:=sO e;exact .inr (.inl ⟨x,rfl,l,k _ H Hi S (ag.refl _) rfl⟩)
   ·exact nO e
  | bM m =>
   cases e;obtain⟨p,c,rfl,q,rs⟩:=h;refine .inr (.inr ⟨p,c,rfl,Rd.of (S.sub _ _ q),k _ H Hi S (ag.refl _) ?_⟩);show V.int _=V.int _;rw[bu.length rs]
  | dC m =>
   cases e;obtain⟨p,ob,c,rfl,q,rs⟩:=h;refine .inr (.inr ⟨p,c,rfl,.inr ⟨ob,S.sub _ _ q⟩,k _ H Hi S (ag.refl _) ?_⟩);show V.int _=V.int _;rw[bu.length rs]
  | _=>exact nO e
 ·exact nO e
def qw:Dat->Dat->Option Dat
 | .lst ds,.int i=>eZ ds i
 | .tup ds,.int i=>eZ ds i
 | .str x,.int i=>if x.length<=dk then (eZ x.cps.toList i).map fun c=>.str ⟨#[c]⟩ else none
 | _,_=>none
noncomputable def iu:Slot->Option Dat
 | .dat d=>some d
 | .own d=>some d
 | .io d=>some d
 | .no=>none
def Top(K:fj)(H Hi:Hp)(v:V):Dat->Prop
 | .lst ds=>∃p vs,v=.ref p/\Rd H p (.lst vs)/\ax K Hi ds vs
 | .tup ds=>∃p vs,v=.ref p/\aV K H p vs/\ax K Hi ds vs
 | .bM c=>∃p kvs,v=.ref p/\H p=some (.dK kvs)/\bu K Hi c kvs
 | .aQ h c=>∃p o kvs,v=.ref p/\H p=some (if h then .a9 o (.dT kvs) else .dT kvs)/\bO K Hi c kvs
 | d=>Rep K Hi d v
theorem Rep.top(r:Rep K Hi d v)(s:ag Hi H):Top K H Hi v d:=by
 cases d with
 | lst ds=>obtain⟨p,vs,a,b,c⟩:=r;exact⟨p,vs,a,Rd.mono s b,c⟩
 | tup ds=>obtain⟨p,vs,a,b,c⟩:=r;exact⟨p,vs,a,aV.mono s b,c⟩
 | bM ds=>obtain⟨p,vs,a,b,c⟩:=r;exact⟨p,vs,a,s _ _ b,c⟩
 | aQ fz ds=>obtain⟨p,o,vs,a,b,c⟩:=r;exact⟨p,o,vs,a,s _ _ b,c⟩
 | _=>exact r
theorem cx.top{p:dR}(h:cx K H Hi p d):Top K H Hi (.ref p) d:=by
 cases d with
 | lst ds=>obtain⟨vs,a,b,_⟩:=h;exact⟨p,vs,rfl,Rd.of a,b⟩
 | bM c=>obtain⟨vs,a,b,_⟩:=h;exact⟨p,vs,rfl,a,b⟩
 | aQ fz c=>obtain⟨rfl,vs,a,b,_⟩:=h;exact⟨p,{cls:=.none,data:=.fields #[]},vs,rfl,a,b⟩
 | _=>exact h.elim
theorem SR.peek(S:SR K H0 ps Z σ H Hi)(e:(Z[i]?).bind iu=some d):∃v,σ[i]?=some (some v)/\Top K H Hi v d:=by
 obtain⟨s,c,e⟩:=oA e;cases s with
 | no=>exact nO e
 | dat d'=>cases e;obtain⟨v,a,b⟩:=S.dat i d c;exact⟨v,a,b.top S.sub⟩
 | own d'=>cases e;obtain⟨p,a,b,_⟩:=S.own i d c;exact⟨_,a,b.top⟩
 | io d'=>cases e;obtain⟨p,a,b,_⟩:=S.io i d c;exact⟨_,a,b.top⟩
theorem Ad{ds:List Dat}{vs:List V}{k:Int}(r:ax K Hi ds vs)(e:eZ ds k=some d):∃v,eZ vs k=some v/\Rep K Hi d v:=by
 delta eZ at e ⊢;rw[r.length];cases q:fJ ds.length k with
 | none=>rw[q] at e;exact nO e
 | some j =>
  rw[q] at e;exact r.get e
theorem BG{x y:V}{a b:Dat}{Q:VK}(t:Top K H Hi x a)(j:Rep K Hi b y)(e:qw a b=some d)(k:∀v,Rep K Hi d v->Q v H):AZ K x y H Q:=by
 delta qw at e;split at e
 ·obtain⟨p,vs,rfl,l,rs⟩:=t;cases j;obtain⟨v,h,m⟩:=Ad rs e;exact .inl ⟨p,vs,_,v,rfl,rfl,.inl l,h,k v m⟩
 ·obtain⟨p,vs,rfl,l,rs⟩:=t;cases j;obtain⟨v,h,m⟩:=Ad rs e;exact .inr (.inl ⟨p,vs,_,v,rfl,rfl,l,h,k v m⟩)
 ·split at e
  ·rename_i n;subst t;subst j;obtain⟨c,h,e⟩:=oM e;obtain rfl:=sO e;exact .inr (.inr ⟨_,_,c,rfl,rfl,n,h,k _ rfl⟩)
  ·exact nO e
 ·exact nO e
def pO(i:Nat):DF:=fun Z=>((Z[i]?).bind iu).bind fun c=>(cD c).map fun n:Nat=>(.int (n:Int),Z)
theorem NY{x:eA}{q s:u3}(i:Nat)(u:X.N[i]?=some x)(y:cc X.env.scope x)(A:Gl X "len")(hm:X.mg "len"=none)(hd:bb x:=by decide)(o:cH x:=by decide) :
  DD X (.Call (.Name "len" s) [.Name x q] [] pos) (pO i):=by
 refine⟨_,mT El A hm XC (dE (fg u y hd o) iY rfl),fun H0 ps Z σ H Hi d Z' Q e S k=>?_⟩
 obtain⟨c,B,e⟩:=oA e;cases h:cD c with
 | none=>rw[h] at e;exact nO e
 | some n =>
  rw[h] at e;obtain⟨rfl,rfl⟩:=sP e;obtain⟨v,a,t⟩:=S.peek B;refine⟨v,a,?_⟩;have j:∀m:Nat,m=n->Q (.int (m:Int)) H:=fun m em=>k _ H Hi S (ag.refl _) (by rw[em];rfl)
  cases c with
  | lst ds =>
   obtain⟨p,vs,rfl,l,rs⟩:=t;cases h;exact .inl ⟨p,vs,rfl,.inl (.inl l),j _ rs.length⟩
  | tup ds =>
   obtain⟨p,vs,rfl,l,rs⟩:=t;cases h;exact .inl ⟨p,vs,rfl,.inr l,j _ rs.length⟩
  | bM C =>
   obtain⟨p,vs,rfl,l,rs⟩:=t;cases h;exact .inr (.inr ⟨p,vs,rfl,Rd.of l,j _ (bu.length rs)⟩)
  | dC C =>
   obtain⟨p,ob,vs,rfl,l,rs⟩:=t;obtain rfl:=sO h;exact .inr (.inr ⟨p,vs,rfl,.inr ⟨ob,S.sub _ _ l⟩,j _ (bu.length rs)⟩)
  | str z =>
   subst t;have h:(if z.length<=dk then some z.length else none)=some n:=h
   split at h
   ·rename_i D;obtain rfl:=sO h;exact .inr (.inl ⟨z,rfl,D,j _ rfl⟩)
   ·exact nO h
  | _=>exact nO h
def qr(i:Nat)(c f:DF):SF:=fun Z=>(f Z).bind fun p=>((p.2[i]?).bind ownOf).bind fun _=>(c p.2).bind fun q=>match q.1 with
 | .int k=>((q.2[i]?).bind ownOf).bind fun s=>(match s.2 with
  | .lst xs=>(fJ xs.length k).map fun j=>.next (q.2.set i (kindAt s.1 (.lst (xs.set j p.1))))
  | _=>none)
 | _=>none
theorem Mb{x:eA}{m pt:u3}{l e:gi}{F f:DF}(i:Nat)(V:X.N[i]?=some x)(W:cc X.env.scope x)(h:DD X e f)(Y:DD X l F)(hd:bb x:=by decide)(G:cH x:=by decide)
 (ha:∀v,Vg (.Subscript (.Name x m) l pt) X.env v=(do
   let u <-UR [v] (eval (.Name x m) X.env)
   let B <-UR [v,u] (eval l X.env)
   Xz pt
   UR [v,u,B] (Zb u B v)
   release [v,u,B] []):=by intro _;rfl)
 (hs:Wq [.Subscript (.Name x m) l pt] e pos.line X.env=pure false:=by rfl)(hw:Wr [.Subscript (.Name x m) l pt] e X.env=pure none:=by rfl)
 (C:(ql [.Subscript (.Name x m) l pt] X.env).map (·.2)=[Vg (.Subscript (.Name x m) l pt) X.env]:=by rfl):bU X (.Assign [.Subscript (.Name x m) l pt] e pos) (qr i F f):=by
 obtain⟨t,p,q⟩:=h;obtain⟨tk,pk,qk⟩:=Y;refine⟨_,yV p (LO (fg V W hd G) pk set_list ha) hs hw C,fun H0 ps Z σ H Hi o D e S k=>?_⟩
 obtain⟨d,Z1,e1,e⟩:=oB e;obtain⟨s0,e2,e⟩:=oA e;obtain⟨n,Z2,e3,e⟩:=oB e;dsimp only at e;split at e
 ·rename_i kk;obtain⟨io,c,I,e⟩:=oB e;dsimp only at e;cases c with
  | lst xs =>
   obtain⟨j,e5,e⟩:=oM e;obtain rfl:=sO e;have sl:∀{A:DS}{b:Bool}{c:Dat},(A[i]?).bind ownOf=some (b,c)->A[i]?=some (kindAt b c):=fun {A b c} h=>by
    cases z:A[i]? with
    | none=>rw[z] at h;exact nO h
    | some s=>rw[z] at h;rw[qL h]
   refine q H0 ps Z σ H Hi d Z1 _ e1 S fun v H1 J L s1 r1=>?_
   obtain⟨a,E,_⟩:=L.at (sl e2);refine⟨.ref a,E,qk H0 ps Z1 σ H1 J _ Z2 _ e3 L fun y H2 M O Q r2=>?_⟩
   subst r2;obtain⟨b,R,ob⟩:=O.at (sl I);rw[E] at R;cases R;obtain⟨vs,C,U,h3⟩:=ob;refine⟨a,vs,kk,j,rfl,rfl,C,by rw[U.length];exact e5,?_⟩
   exact k σ _ M (O.write (sl I) E ⟨_,aU,ax.set j U (Rep.mono Q r1),h3⟩) (s1.trans Q)
  | _=>exact nO e
 ·exact nO e
def Qg(X:Cx)(j:Nat)(i:Nat)(f:AF)(t:TA):Prop:=∀(H0:Hp×Hp) (ps:Nat->Option dR) (Z:DS) (σ:St) (H Hi:Hp) (ds:List Dat) (h:DS) (w:V) (Q:List V->Hp->Prop),f Z=some (ds,h)->SR X.K H0 ps Z σ H Hi->σ[i]?=some (some w) ->
 (∀vs k c,SR X.K H0 ps h σ k c->ag Hi c->vs[j]?=some w->ax X.K c ds (vs.eraseIdx j)->Q vs k)->t σ H Q
inductive qJ (X:Cx) (es:List gi) (j i:Nat) (f:AF):Prop
 | mk (t:TA) (p:PA X es t) (q:Qg X j i f t)
theorem QL{x:eA}{c:u3}{es:List gi}{g:AF}(i:Nat)(m:X.N[i]?=some x)(n:cc X.env.scope x)(h:DA X es g)(hs:lq (.Name x c::es) X.env=(false,eval (.Name x c) X.env)::lq es X.env:=by rfl)
 (hd:bb x:=by decide)(j:cH x:=by decide):qJ X (.Name x c::es) 0 i g:=by
 obtain⟨t,p,q⟩:=h;refine⟨_,dE (fg m n hd j) p hs,fun H0 ps Z σ H Hi ds o w Q e S s k=>⟨w,s,?_⟩⟩
 exact q H0 ps Z σ H Hi ds o _ e S fun vs u l y s' r=>k (w::vs) u l y s' rfl r
theorem SR.CO{K:fj}{H0:Hp×Hp}{ps:Nat->Option dR}{Z:DS}{σ:St}{H Hi l k:Hp}{v:V}{r:Res}{i:Nat}{io:Bool}{c n:Dat}{p:dR}(S:SR K H0 ps Z σ H Hi)(e:Z[i]?=some (kindAt io c))(ep:σ[i]?=some (some (.ref p)))
 (s:∀b o,H b=some o->b≠p->l b=some o)(Q:ag Hi k)(R:ag k l)(nw:∀p o,k p=some o->gg Hi H p o)(E:cx K l k p n)(t:RC K H l k v r) :
  SR K H0 ps (Z.set i (kindAt io n)) σ l k/\RR K H0 ps (Z.set i (kindAt io n)) σ l k v r:=by
 obtain⟨q,eq,U⟩:=S.at e;rw[ep] at eq;cases eq;obtain⟨⟨ob,B⟩,hn⟩:=U.some;obtain⟨⟨A,F⟩,G⟩:=E.some;have Y:ag H (upd l p ob):=fun b o C=>by
  by_cases z:b=p
  ·subst z;rw[aU];rw[B] at C;exact C
  ·rw[aw z];exact s b o C z
 have I:ag k (upd l p ob):=rM R G;have J:RC K H (upd l p ob) k v r:=by
  cases r with
  | dat d=>exact t
  | own c0 =>
   obtain⟨u,D,y,m⟩:=t;have L:u≠p:=fun z=>by
    subst z;rw[B] at m;contradiction
   exact⟨u,D,y.keeps (aw L) (ag.refl _) y.some.2,m⟩
 obtain⟨S1,rr⟩:=S.after Y Q I nw J;have M:upd (upd l p ob) p A=l:=by
  rw[Lg];funext b
  by_cases z:b=p
  ·subst z;rw[aU,F]
  ·rw[aw z]
 have N:=S1.write e ep (by rw[M];exact E)
 simp[M] at N;refine⟨N,?_⟩;cases r with
 | dat d=>exact t
 | own c0 =>
  obtain⟨u,D,y,m⟩:=t;refine⟨u,D,y,(S.bI m).2,(S.bI m).1,fun j d h z=>?_⟩
  by_cases O:j=i
  ·subst O;rw[ep] at z;cases z;rw[B] at m;contradiction
  ·rw[kx (Ne.symm O)] at h;exact S.dP m j d h z
def j0(fn:dI)(i:Nat)(fa:AF):EF:=fun Z=>((Z[i]?).bind ownOf).bind fun _=>(fa Z).bind fun p=>((p.2[i]?).bind ownOf).bind fun s=>(fn s.2 p.1).map fun q=>(q.1,p.2.set i (kindAt s.1 q.2))
theorem jX{Z:DS}{i:Nat}{b:Bool}{c:Dat}(h:(Z[i]?).bind ownOf=some (b,c)):Z[i]?=some (kindAt b c):=by
 cases z:Z[i]? with
 | none=>rw[z] at h;exact nO h
 | some s=>rw[z] at h;rw[qL h]
theorem Ja{x:eA}{e:gi}{es:List gi}{fn:dI}{fa:AF}{p:u3}{j i:Nat}(h:vA X x (cO X.K j fn))(C:qJ X (e::es) j i fa)(o:bb x:=by decide)
 (D:bp X e es:=by rfl)(s:(KX pos (lq es X.env)).any (·.1)=false:=by rfl):DE X (.Call (.Name x p) (e::es) [] pos) (j0 fn i fa):=by
 obtain⟨E,CX,k,f,fd,pn,F,G,hm,I,J,L⟩:=h;obtain⟨t,M,q⟩:=C;refine⟨_,Dh F G E hm I J .nil L M o D s,fun H0 ps Z σ H Hi r Z' Q l S k=>?_⟩
 obtain⟨b0,c0,N,l⟩:=oB l;obtain⟨ds,Z1,O,l⟩:=oB l;obtain⟨io,c,u,l⟩:=oB l;obtain⟨r',R,U,l⟩:=oN l;dsimp only at l;obtain⟨rfl,rfl⟩:=sP l;obtain⟨a,m,_⟩:=S.at (jX N);refine q H0 ps Z σ H Hi ds Z1 _ _ O S m fun vs H1 y n V W Y=>?_
 obtain⟨b,z,ob⟩:=n.at (jX u);rw[m] at z;cases z;refine⟨y,a,c,ds,_,R,n.sub,by rw[r4];exact W,ob,by rw[r4];exact Y,U,fun v H2 A a1 B a3 a4 oc rc=>?_⟩
 obtain⟨S2,rr⟩:=n.CO (jX u) m a1 B a3 a4 oc rc;exact k v H2 A S2 (V.trans B) rr
noncomputable def iJ(n j:Nat)(c:Dat)(ds:List Dat):DS:=(ds.map Slot.dat).take j++.io c::(ds.map Slot.dat).drop j++WH (n-ds.length-1) .no
def lL(n j:Nat)(f:SF):dI:=fun c ds=>(f (iJ n j c ds)).bind fun o=>match o with
 | .next Z=>(match Z[j]? with|some (.io h)=>some (.dat .aB,h)|_=>none)
 | .ret r Z=>(match Z[j]? with|some (.io h)=>some (r,h)|_=>none)
 | _=>none
theorem xq{n j:Nat}{c:Dat}{ds:List Dat}(hj:j<=ds.length){k:Nat}{s:Slot}(h:(iJ n j c ds)[k]?=some s) :
  (k<j/\∃d,ds[k]?=some d/\s=.dat d)\/(k=j/\s=.io c)\/(j<k/\∃d,ds[k-1]?=some d/\s=.dat d)\/s=.no:=by
 delta iJ at h;have l:((ds.map Slot.dat).take j).length=j:=by rw[l5,a7];lia
 by_cases o:k<j
 ·rw[ph,kq (by simp only[l];exact o),X' o,eo] at h
  cases e:ds[k]? with
  | none=>rw[e] at h;exact nO h
  | some d=>rw[e] at h;obtain rfl:=sO h;exact .inl ⟨o,d,rfl,rfl⟩
 ·rw[ph,lz (by rw[l];lia),l] at h
  by_cases q:k=j
  ·subst q;rw[aaN] at h;obtain rfl:=sO h;exact .inr (.inl ⟨rfl,rfl⟩)
  ·have t:j<k:=by lia
   obtain⟨m,hm⟩:∃m,k-j=m+1:=⟨k-j-1,by lia⟩
   simp[hm] at h
   by_cases u:m<((ds.map Slot.dat).drop j).length
   ·rw[kq u,Y6,eo] at h;have y:j+m=k-1:=by lia
    rw[y] at h;cases e:ds[k-1]? with
    | none=>rw[e] at h;exact nO h
    | some d=>rw[e] at h;obtain rfl:=sO h;exact .inr (.inr (.inl ⟨t,d,rfl,rfl⟩))
   ·rw[lz (by lia),Wd] at h
    split at h
    ·obtain rfl:=sO h;exact .inr (.inr (.inr rfl))
    ·exact nO h
theorem Iy{K:fj}{N:List eA}{vs:List V}{ds:List Dat}{H Hi:Hp}{j:Nat}{p:dR}{c:Dat}(s:ag Hi H)(hl:vs.length<=N.length)(A:vs[j]?=some (.ref p))(B:cx K H Hi p c)(r:ax K Hi ds (vs.eraseIdx j)) :
  SR K (H,Hi) (fun k=>if k=j then some p else none) (iJ N.length j c ds) (start N vs) H Hi:=by
 have D:=(bt.mp A).1;have hd:=r.length;rw[XW D] at hd;have n:j<=ds.length:=by omega
 have st:∀{k:Nat}{v:V},vs[k]?=some v->(start N vs)[k]?=some (some v):=fun {k v} e=>by
  delta start;rw[kq (by simpa using (bt.mp e).1),eo,e]
  rfl
 have m:∀{k:Nat}{d:Dat},(iJ N.length j c ds)[k]?≠some (.own d):=fun {k d} h=>by
  rcases xq n h with⟨_,_,_,e⟩|⟨_,e⟩|⟨_,_,_,e⟩|e<;>contradiction
 have t:∀{k:Nat}{d:Dat},(iJ N.length j c ds)[k]?=some (.io d)->k=j/\d=c:=fun {k d} h=>by
  rcases xq n h with⟨_,_,_,e⟩|⟨a,e⟩|⟨_,_,_,e⟩|e
  ·contradiction
  ·cases e;exact⟨a,rfl⟩
  ·contradiction
  ·contradiction
 refine⟨s,fun b o e _=>e,fun q l=>?_,fun k d e=>?_,fun k d e=>absurd e m,fun k d e=>?_,fun k E d d' q F G z1 z2=>?_,?_,fun q o e=>.inl e⟩
 ·obtain⟨k,z⟩:=l;dsimp only at z;split at z
  ·obtain rfl:=sO z;obtain⟨⟨o,e⟩,_⟩:=B.some;rw[e];simp
  ·exact nO z
 ·rcases xq n e with⟨C,d',y,u⟩|⟨_,u⟩|⟨C,d',y,u⟩|u
  ·cases u;obtain⟨v,a,b⟩:=r.get y;rw[List.getElem?_eraseIdx_of_lt C] at a;exact⟨v,st a,b⟩
  ·contradiction
  ·cases u;obtain⟨v,a,b⟩:=r.get y;rw[List.getElem?_eraseIdx_of_ge (by lia)] at a
   have:k-1+1=k:=by lia
   rw[this] at a;exact⟨v,st a,b⟩
  ·contradiction
 ·obtain⟨rfl,rfl⟩:=t e;exact⟨p,st A,B,by simp⟩
 ·have a1:k=j:=by
   rcases F with h|h
   ·exact absurd h m
   ·exact (t h).1
  have I:E=j:=by
   rcases G with h|h
   ·exact absurd h m
   ·exact (t h).1
  simp only[a1,I]
 ·delta iJ start;simp
  lia
theorem Eg{x y:eA}{st:Uz}{f:dR}{fd:hQ}{N ps:List eA}{k j:Nat}{fn:dI}{fb:SF}(F:bf K x y st f fd)(S:bw N ps (aJ st))(O:∀c ds r,fn c ds=some r->ds.length+1=ps.length)
 (R:∀(B:bR) (A:n6) (outer:List Xo) (s:dr) (H:Hp) (E:XK),Room k (A.deeper (Vu y (aJ st) s.heap.objs.size f B))->fG (dA bh P w K mg base N y (aJ st) f B A outer s H E).gY (fZ st) fb)
 (hf:∀c ds r,fn c ds=some r->lL N.length j fb c ds=some r):aO P w K mg base bh (k+1) f fd ps (cO K j fn):=by
 have L:∀{vs:List V}{H Hi:Hp}{p:dR}{c:Dat}{ds:List Dat}{r:Res×Dat},vs[j]?=some (V.ref p)->ax K Hi ds (vs.eraseIdx j)->fn c ds=some r->vs.length=ps.length:=fun {vs H Hi p c ds r} G rs e=>by
  have hj:=(bt.mp G).1;have:=rs.length;rw[XW hj] at this;have:=O c ds r e
  lia
 have hpl:ps.length<=N.length:=by have:=congrArg List.length S.pre;rw[l5] at this;lia
 refine F.ok S (fun vs H Q E h=>?_) (fun B A outer s H vs Q E hr h=>?_)
 ·obtain⟨Hi,p,c,ds,r,c',sm,G,oc,rs,e,_⟩:=h;exact L (H:=H) G rs e
 ·obtain⟨Hi,p,c,ds,r,c',sm,G,oc,rs,e,kk⟩:=h;obtain⟨t,pp,q⟩:=R B A outer s H E hr;refine⟨t,pp,?_⟩;have l:=hf c ds (r,c') e;unfold lL at l;have hv:=L (H:=H) G rs e;obtain⟨o,e1,l⟩:=oA l;have M:∀{Z:DS}{D:St}{u m:Hp}{I:Dat},SR K (H,Hi) (fun k=>if k=j then some p else none) Z D u m->Z[j]?=some (.io I) ->
    (∀b o,H b=some o->b≠p->u b=some o)/\(∀p o,m p=some o->gg Hi H p o)/\cx K u m p I:=fun {Z D u m I} n J=>by
   refine⟨fun b o eb R=>n.keep b o eb fun ⟨k,z⟩=>?_,fun p o e=>n.nw p o e,?_⟩
   ·dsimp only at z;split at z
    ·obtain rfl:=sO z;exact R rfl
    ·exact nO z
   ·obtain⟨p',a,b,U⟩:=n.io j I J
    (try dsimp only at U)
    rw[if_pos rfl] at U;obtain rfl:=sO U;exact b
  refine q (H,Hi) _ (iJ N.length j c ds) (start N vs) H Hi o _ e1 (Iy sm (by omega) G oc rs) ?_
  cases o with
  | next Z =>
   refine fun D u m n s'=>?_
   simp only at l;split at l
   ·rename_i I J;cases l;obtain⟨a1,W,Y⟩:=M n J;exact kk .aB u m a1 s' n.sub W Y rfl
   ·exact nO l
  | ret r' Z =>
   refine fun v D u m n s' rr=>?_
   simp only at l;split at l
   ·rename_i I J;cases l;obtain⟨a1,W,Y⟩:=M n J;refine kk v u m a1 s' n.sub W Y ?_;cases r with
    | dat d=>exact rr
    | own c0 =>
     obtain⟨p0,e',o,np,n0,_⟩:=rr;exact⟨p0,e',o,n0⟩
   ·exact nO l
  | brk Z=>exact nO l
  | cont Z=>exact nO l
  | exc C Z=>exact nO l
theorem IG:aI X (L1 .Mult) (rI IntMulOk fun i j=>.int (i*j)):=sA fun _ _ _ _ _ _ _ c q=>mul_int q c
theorem eN{N:List eA}{x:eA}{i:Nat}(h:N.findIdx? (·==x)=some i):N[i]?=some x:=by
 obtain⟨c,j,_⟩:=U9.mp h;simp_all
noncomputable def fB(i j:Int):Bool:=!(decide (px i>WM)&&decide (px j>WM)&&Xp (px i+px j))
noncomputable def jB(_ j:Int):Bool:=decide (0<j)&&decide (j.natAbs.log2<9000)
noncomputable def DL(i j:Int):Bool:=decide (0<=j)&&decide (j<=1000000)&&decide (i.natAbs<2 ^ 64)
theorem Pm(c:DD X a f)(h:DD X b g):DE X (.BinOp a .Add b pos) (cw fK f g):=kO Rh P9 c h
theorem Ki(c:DD X a f)(h:DD X b g):DE X (.BinOp a .Sub b pos) (cw (fU (fun _ _=>true) fun i j=>.int (i-j)) f g):=kO Ip (xJ fun _ _ _ _=>rfl) c h
theorem Jd(c:DD X a f)(k:DD X b g):DE X (.BinOp a .Mult b pos) (cw (fU fB fun i j=>.int (i*j)) f g) :=
 kO IG (qR (fun i j h=>by unfold fB at h;unfold IntMulOk;intro z;rw[z] at h;contradiction) fun _ _ _ _=>rfl) c k
theorem Lr(c:DD X a f)(k:DD X b g):DE X (.BinOp a .FloorDiv b pos) (cw (fU jB fun i j=>.int (i/j)) f g) :=
 kO M8 (qR (fun i j h=>by unfold jB at h;rw[ee] at h;exact⟨of_decide_eq_true h.1,of_decide_eq_true h.2⟩) fun _ _ _ _=>rfl) c k
theorem IQ(c:DD X a f)(k:DD X b g):DE X (.BinOp a .Mod b pos) (cw (fU (fun _ j=>decide (0<j)) fun i j=>.int (i%j)) f g) :=
 kO Kq (qR (fun i j h=>of_decide_eq_true h) fun _ _ _ _=>rfl) c k
theorem PU(c:DD X a f)(k:DD X b g):DE X (.BinOp a .Pow b pos) (cw (fU DL fun i j=>.int (i ^ j.toNat)) f g) :=
 kO PM (qR (fun i j h=>by unfold DL at h;rw[ee,ee] at h;exact⟨of_decide_eq_true h.1.1,of_decide_eq_true h.1.2,of_decide_eq_true h.2⟩) fun _ _ _ _=>rfl) c k
theorem Nd(c:X.A.units+64<uz)(h:DD X a f)(j:DD X b g):DT X (.Compare a [.Eq] [b] pos) (fF (cw (eX false) f g)):=mf (Ep c) rB h j (j6 _)
theorem Kt(c:X.A.units+64<uz)(h:DD X a f)(j:DD X b g):DT X (.Compare a [.NotEq] [b] pos) (fF (cw (eX true) f g)):=mf (zx c) rB h j (j6 _)
theorem Nj(c:DD X a f)(h:DD X b g):DT X (.Compare a [.Gt] [b] pos) (fF (cw (fU (fun _ _=>true) fun i j=>.bl (decide (j<i))) f g)):=mf Nw (xJ fun _ _ _ _=>rfl) c h (j6 _)
theorem HU(c:DD X a f)(h:DD X b g):DT X (.Compare a [.GtE] [b] pos) (fF (cw (fU (fun _ _=>true) fun i j=>.bl (decide (j<=i))) f g)):=mf LV (xJ fun _ _ _ _=>rfl) c h (j6 _)
theorem Jq{x:eA}{i:Nat}(h:X.N.findIdx? (·==x)=some i)(j:cc X.env.scope x)(hd:bb x)(c:cH x):DD X (.Name x pos) (cC i):=Ku i (eN h) j hd c
theorem Rm{x:eA}{i:Nat}(h:X.N.findIdx? (·==x)=some i)(j:cc X.env.scope x)(hd:bb x)(c:cH x):DE X (.Name x pos) (vc i):=HF i (eN h) j hd c
theorem vP{x:eA}{e:gi}{f:EF}{c:u3}{i:Nat}(j:X.N.Nodup)(k:X.N.findIdx? (·==x)=some i)(l:Loc X.env.scope x)(m:X.fn x=true\/X.env.scope.names.lookup x=some .local)
 (hs:xn e (some (.Name x c)) pos.line X.env=pure false)(h:DE X e f):bU X (.Assign [.Name x c] e pos) (gS i f):=FY i j (eN k) l m h hs
theorem MO{x:eA}{j pt:u3}{c e:gi}{m f:DF}{i:Nat}(o:X.N.findIdx? (·==x)=some i)(q:cc X.env.scope x)(hd:bb x)(n:cH x)
 (s:∀v,Vg (.Subscript (.Name x j) c pt) X.env v=(do
   let k <-UR [v] (eval (.Name x j) X.env)
   let l <-UR [v,k] (eval c X.env)
   Xz pt
   UR [v,k,l] (Zb k l v)
   release [v,k,l] []))
 (hs:Wq [.Subscript (.Name x j) c pt] e pos.line X.env=pure false)(hw:Wr [.Subscript (.Name x j) c pt] e X.env=pure none)
 (t:(ql [.Subscript (.Name x j) c pt] X.env).map (·.2)=[Vg (.Subscript (.Name x j) c pt) X.env])(h:DD X e f)(u:DD X c m):bU X (.Assign [.Subscript (.Name x j) c pt] e pos) (qr i m f):=Mb i (eN o) q h u hd n s hs hw t
abbrev OF:=DS->Option (Option Int×DS)
def OQ(X:Cx)(f:OF)(t:TO):Prop:=∀(H0:Hp×Hp) (ps:Nat->Option dR) (Z:DS) (σ:St) (H Hi:Hp) (o:Option Int) (c:DS) (Q:Option Int->Hp->Prop),f Z=some (o,c)->SR X.K H0 ps Z σ H Hi->xi X.K H0 ps σ Hi (Q o) c->t σ H Q
inductive DO (X:Cx) (e:Option gi) (f:OF):Prop
 | mk (t:TO) (p:PO X e t) (q:OQ X f t)
noncomputable def nZ:OF:=fun Z=>some (none,Z)
noncomputable def kX(f:DF):OF:=fun Z=>(f Z).bind fun p=>match p.1 with
 | .int i=>some (some i,p.2)
 | _=>none
def cutD{c:Type}(xs:List c)(lo h:Option Int):List c:=(xs.drop (aS xs.length 0 lo)).take (aS xs.length xs.length h-aS xs.length 0 lo)
def gC:Dat->Option Int->Option Int->Option Res
 | .lst ds,lo,c=>some (.own (.lst (cutD ds lo c)))
 | .bW h,lo,c=>some (.own (.lst ((cutD h lo c).map Dat.int)))
 | .tup ds,lo,c=>if aS ds.length 0 lo=0/\aS ds.length ds.length c=ds.length then none else some (.dat (.tup (cutD ds lo c)))
 | _,_,_=>none
def j7(f:DF)(l h:OF):EF:=fun Z=>(f Z).bind fun p=>(l p.2).bind fun q=>(h q.2).bind fun r=>(gC p.1 q.1 r.1).map fun o=>(o,r.2)
theorem Nz(c:List Int)(lo h:Option Int):iE (c.map V.int) lo h=(cutD c lo h).map V.int:=by
 delta iE cutD;rw[a7,V4,V5]
theorem ax.take{K:fj}{H:Hp}:∀{ds:List Dat}{vs:List V}(n:Nat),ax K H ds vs->ax K H (ds.take n) (vs.take n)
 | [],_,n,h=>by simp only[show _=[] from h,X8,X8];exact rfl
 | _::_,_,0,⟨v,r,e,q,t⟩=>by rw[e];exact rfl
 | _::_,_,n+1,⟨v,r,e,q,t⟩=>⟨v,r.take n,by rw[e];rfl,q,ax.take n t⟩
theorem ax.drop{K:fj}{H:Hp}:∀{ds:List Dat}{vs:List V}(n:Nat),ax K H ds vs->ax K H (ds.drop n) (vs.drop n)
 | [],_,n,h=>by simp only[show _=[] from h,aac,aac];exact rfl
 | _::_,_,0,h=>h
 | _::_,_,n+1,⟨v,r,e,q,t⟩=>by rw[e];exact ax.drop n t
theorem ax.cut{K:fj}{H:Hp}{ds:List Dat}{vs:List V}(lo c:Option Int)(r:ax K H ds vs):ax K H (cutD ds lo c) (iE vs lo c):=by
 delta cutD iE;rw[r.length];exact ax.take _ (ax.drop _ r)
theorem Hn:DO X none nZ:=⟨_,Kx,fun H0 ps Z σ H Hi o Z' Q e S k=>by obtain⟨rfl,rfl⟩:=sP e;exact k H Hi S (ag.refl _)⟩
theorem OR{f:DF}(h:DD X e f):DO X (some e) (kX f):=by
 obtain⟨t,p,q⟩:=h;refine⟨_,P7 p,fun H0 ps Z σ H Hi o Z' Q e S k=>?_⟩
 obtain⟨d,Z1,j,e⟩:=oB e;dsimp only at e;split at e
 ·obtain⟨rfl,rfl⟩:=sP e;exact q H0 ps Z σ H Hi _ _ _ j S fun v l c m s' r=>⟨_,r,k l c m s'⟩
 ·exact nO e
theorem Ii{f:DF}{l h:OF}{lo D:Option gi}(G:DD X e f)(hl:DO X lo l)(hh:DO X D h):DE X (.Subscript e (.Slice lo D none p2) pos) (j7 f l h):=by
 obtain⟨t,p,q⟩:=G;obtain⟨tl,I,J⟩:=hl;obtain⟨th,L,M⟩:=hh;refine⟨_,Gw (k9.or NX QQ) p I L,fun H0 ps Z σ H Hi o Z' Q j S k=>?_⟩
 obtain⟨d,Z1,N,j⟩:=oB j;cases A:l Z1 with
 | none=>rw[A] at j;exact nO j
 | some O =>
  obtain⟨a,Z2⟩:=O;rw[A] at j;simp at j;obtain⟨b,Z3,R,j⟩:=oB j;dsimp only at j;obtain⟨o',n,j⟩:=oM j;cases j;refine q H0 ps Z σ H Hi d Z1 _ N S fun v U E V B W=>?_
  refine J H0 ps Z1 σ U E a Z2 _ A V fun Y F S2 u=>?_
  refine M H0 ps Z2 σ Y F b _ _ R S2 fun H3 y c s3=>?_
  have C:=Rep.mono (u.trans s3) W;cases d with
  | lst ds =>
   obtain rfl:=sO n;obtain⟨p,vs,rfl,s,rs⟩:=C;refine .inl ⟨p,vs,rfl,.inl (Rd.mono c.sub s),fun z m=>?_⟩
   exact k (.ref z) _ y (c.made m) ((B.trans u).trans s3) ⟨z,rfl,⟨_,aU,ax.cut a b rs,c.dj m⟩,(c.bI m).2,(c.bI m).1,c.dP m⟩
  | bW ns =>
   obtain rfl:=sO n;obtain⟨p,rfl,s⟩:=C;refine .inl ⟨p,_,rfl,cf.mono c.sub s,fun z m=>?_⟩
   exact k (.ref z) _ y (c.made m) ((B.trans u).trans s3) ⟨z,rfl,⟨_,aU,by rw[Nz];exact ax.ints _,c.dj m⟩,(c.bI m).2,(c.bI m).1,c.dP m⟩
  | tup ds =>
   have n:(if aS ds.length 0 a=0/\aS ds.length ds.length b=ds.length then none else some (Res.dat (.tup (cutD ds a b))))=some o:=n
   split at n
   ·exact nO n
   ·rename_i hn;obtain rfl:=sO n;obtain⟨p,vs,rfl,s,rs⟩:=C;refine .inr ⟨p,vs,rfl,aV.mono c.sub s,by rw[rs.length];exact hn,fun z m=>?_⟩
    obtain⟨S4,s4⟩:=c.laid m;exact k (.ref z) _ _ S4 (((B.trans u).trans s3).trans s4) ⟨z,_,rfl,aV.of aU,ax.mono s4 (ax.cut a b rs)⟩
  | _=>exact nO n
noncomputable def oI(k:Nat)(p:dR):Nat->Option Addr:=fun m=>if m=k then some p else none
theorem xR{k:Nat}{p b:dR}(h:gm (oI k p) b):b=p:=by
 obtain⟨m,z⟩:=h;delta oI at z;split at z
 ·obtain rfl:=sO z;rfl
 ·exact nO z
theorem FT{caps:List (Option Nat)}{Z:DS}{H Hi:Hp}{k j:Nat}{p:dR}{c:Dat}(S:SR K H0 ps Z σ H Hi)(t:caps[k]?=some (some j))(ep:σ[j]?=some (some (.ref p)))(u:cx K H Hi p c) :
  SR K (H,Hi) (oI k p) ((bX caps Z).set k (.io c)) (eJ caps σ) H Hi:=by
 have y:k<(bX caps Z).length:=by
  delta bX;rw[a7];exact (bt.mp t).1
 have other:∀{m:Nat}{s:Slot},m≠k->((bX caps Z).set k (.io c))[m]?=some s->(bX caps Z)[m]?=some s:=fun {m s} hm h=>by
  rw[kx (Ne.symm hm)] at h;exact h
 have XG:∀{s:Slot},((bX caps Z).set k (.io c))[k]?=some s->s=.io c:=fun {s} h=>by
  rw[lp y] at h;exact (Option.some.inj h).symm
 have n:∀{m:Nat}{d:Dat},(((bX caps Z).set k (.io c))[m]?=some (.own d)\/((bX caps Z).set k (.io c))[m]?=some (.io d))->m=k:=fun {m d} h=>by
  by_cases hm:m=k
  ·exact hm
  ·rcases h with h|h
   ·exact absurd (other hm h) ls.1
   ·exact absurd (other hm h) ls.2
 refine⟨S.sub,fun b o e _=>e,fun q l=>?_,fun m d e=>?_,fun m d e=>?_,fun m d e=>?_,fun m m' d d' q A B _ _=>(n A).trans (n B).symm,?_,fun q o e=>.inl e⟩
 ·rw[xR l];obtain⟨⟨o,e⟩,_⟩:=u.some;rw[e];simp
 ·have hm:m≠k:=fun z=>by subst z;cases XG e
  obtain⟨C,D,E⟩:=AV (other hm e);obtain⟨v,a,b⟩:=S.dat C d E;exact⟨v,yc D a,b⟩
 ·have hm:=n (.inl e);subst hm;cases XG e
 ·have hm:=n (.inr e);subst hm;cases XG e;exact⟨p,yc t ep,u,by unfold oI;rw[if_pos rfl]⟩
 ·simp[bX,eJ]
theorem Q6{caps:List (Option Nat)}{Z:DS}{k:Nat}{c:Dat}:noOwn ((bX caps Z).set k (.io c))=true:=by
 delta noOwn;rw[ia];intro s hs
 rcases List.mem_or_eq_of_mem_set hs with h|h
 ·exact ia.mp (Eo) s h
 ·rw[h]
theorem Q0{caps:List (Option Nat)}{kb j:Nat}{O:TI}{fi:IF}{g:GF}{fc:BF}{fe:DF}
 (qi:∀(H0:Hp×Hp) (ps:Nat->Option dR) (Z:DS) (σ:St) (H Hi:Hp) (items:List Dat) (A:DS) (R:It->Hp->Prop),fi Z=some (items,A)->SR X.K H0 ps Z σ H Hi->(∀J L B,SR X.K H0 ps A σ L B->ag Hi B->JW X.K J items B->R J L)->O σ H R)
 (H0:Hp×Hp)(ps:Nat->Option dR)(Z:DS)(σ:St)(H Hi:Hp)(r:Res)(A:DS)(Q:VK)(h:dm caps (some (kb,j)) fi g fc fe Z=some (r,A))(S:SR X.K H0 ps Z σ H Hi)
 (k:∀v s u,SR X.K H0 ps A σ s u->ag Hi u->RR X.K H0 ps A σ s u v r->Q v s):rq (eJ caps) O (kS X.K g) (ky X.K fc) (kW X.K fe) σ H Q:=by
 obtain⟨items,Z1,e1,h⟩:=oB h;dsimp only at h;split at h
 ·rename_i ek;refine qi H0 ps Z σ H Hi items Z1 _ e1 S fun J L B S1 s1 jw=>?_
  intro D U;obtain⟨Hi2,N,V⟩:=oj (some (kb,j)) caps S1;have go:∀(io:Bool) (c:Dat),(a9 (some (kb,j)) caps Z1)[j]?=some (kindAt io c)->∀(n:List Dat) (Ze:DS) (z:Dat),compLoop g fc fe items [] ((bX caps (a9 (some (kb,j)) caps Z1)).set kb (.io c))=some (n,Ze)->Ze[kb]?=some (.io z) ->
    r=.own (.lst n)->A=(a9 (some (kb,j)) caps Z1).set j (kindAt io z) ->
    ∃W:Nat->Nat->St->Hp->Prop,(∃m,W 0 m (eJ caps σ) (upd L D (.lst [])))/\∀i m F s,W i m F s->(J.stop i s/\Q (.ref D) s)\/(J.go i s/\∀x M,J.mz i s x M->kS X.K g x F M fun C H2=>ky X.K fc C H2 fun b Y =>
     if b=true then kW X.K fe C Y fun y H4=>∃ys,H4 D=some (.lst ys)/\ys.length<dk/\∃G,G<m/\W (i+1) G C (upd H4 D (.lst (ys++[y])))
     else ∃G,G<m/\W (i+1) G C Y):=by
   intro io c E n Ze z t I er ed;subst er;subst ed;obtain⟨p,ep,op⟩:=N.at E;refine DQ (FT N ek ep op) Q6 U (jw.mono V) t fun F s u vs S' sm RE nb eD ra hd=>?_
   obtain⟨q,_,oq,eq⟩:=S'.io kb z I;have hq:=xR ⟨kb,eq⟩;subst hq;obtain⟨S3,rr⟩:=N.CO (r:=.own (.lst n)) E ep (fun b o e hb=>RE b o e fun l=>hb (xR l)) sm S'.sub nb oq ⟨D,rfl,⟨vs,eD,ra,hd⟩,U⟩
   exact k (.ref D) s u S3 ((s1.trans V).trans sm) rr
  split at h
  ·rename_i c E;cases t:compLoop g fc fe items [] ((bX caps (a9 (some (kb,j)) caps Z1)).set kb (.io c)) with
   | none=>rw[t] at h;exact nO h
   | some q =>
    obtain⟨n,Ze⟩:=q;rw[t] at h;simp at h;split at h
    ·rename_i z I;cases h;exact go false c E n Ze z t I rfl rfl
    ·cases h
  ·rename_i c E;cases t:compLoop g fc fe items [] ((bX caps (a9 (some (kb,j)) caps Z1)).set kb (.io c)) with
   | none=>rw[t] at h;exact nO h
   | some q =>
    obtain⟨n,Ze⟩:=q;rw[t] at h;simp at h;split at h
    ·rename_i z I;cases h;exact go true c E n Ze z t I rfl rfl
    ·cases h
  ·exact nO h
 ·exact nO h
theorem LA{NB:List eA}{caps:List (Option Nat)}{scope:Ux}{elt iter k:gi}{ifs:List gi}{fi:IF}{g:GF}{fc:BF}{fe:DF}(kb j:Nat)(m:X.calm=true)(B:i9 X.env.scope scope)(l:gv X.N NB scope caps=true)(n:cX X k iter fi)
 (o:∀(cl:List (eA×dR)) (C:dR) (c:dr) (H:Hp) (h:List dR),DG (bV X NB scope cl C c H h) k g)(q:∀(cl:List (eA×dR)) (C:dR) (c:dr) (H:Hp) (h:List dR),kn (bV X NB scope cl C c H h) ifs fc)
 (s:∀(cl:List (eA×dR)) (C:dR) (c:dr) (H:Hp) (h:List dR),DD (bV X NB scope cl C c H h) elt fe)(hs:∀x,r0 iter X.env x=pure x:=by intro _;rfl) :
  DE X (.ListComp elt [⟨k,iter,ifs,0⟩] scope pos) (dm caps (some (kb,j)) fi g fc fe):=by
 obtain⟨wi,t,u⟩:=n;exact⟨_,Eh (tc:=ky X.K fc) m B l t (fun cl C c H h=>⟨(o cl C c H h).lu,q cl C c H h,(s cl C c H h).lu⟩) hs,Q0 u⟩
end
def qH(d:Dat)(ds:List Dat):Option Nat:=(cy ds).findIdx? fun y=>va y (toPy d)
def A7(K:fj):V->List V->Hp->VK->Prop:=fun x vs H Q=>∃a ds d y p b j,x=.ref p/\vs=[y]/\ag a H/\Rd H p (.lst b)/\ax K a ds b/\Rep K a d y/\bH (.lst ds)=true/\bH d=true/\qH d ds=some j/\Q (.int (j:Int)) H
section
variable{X:Cx}{P:iN}{w:nE}{K:fj}{mg:eA->Option bR}{base:nS}
theorem JG(r:X.A.units+65<uz):sZ X "list.index" (A7 X.K):=by
 intro pins s σ H x vs v us Q I t B h;obtain⟨Hi,ds,d,y,p,ws,j,rfl,rfl,sm,C,rs,D,f,b,E,q⟩:=h;subst t;obtain⟨u,rfl,G⟩:=B.one;obtain⟨z,its,n,g,e⟩:=C.ok I.ai;have f:=kH.mp f;have b:=kH.mp b;obtain⟨as,i⟩:=tN I sm (show jh ds=true from f.1) rs g
 obtain⟨bs,J⟩:=je I sm b.1 D G;have k1:VQ (cy ds)=true:=pe f.2;have k2:(toPy d).canLay0=true:=pe b.2;have hm:=SeqAt.readsAll_map _ _ _ k1 i;obtain⟨L,hit,k⟩:=U9.mp E;have hl:its.length=(cy ds).length:=by simp only[<-hm,a7]
 have get:∀(m:Nat) (h:m<its.toArray.size),VB s.heap its.toArray[m]=(cy ds)[m]'(by rw[<-hl];simpa using h):=fun m h=>by
  have a:(its.map (VB s.heap))[m]?=some (VB s.heap its.toArray[m]):=by
   rw[eo];have:its[m]?=some its.toArray[m]:=by
    rw[cA (by simpa using h)]
    simp
   rw[this];rfl
  rw[hm] at a;rw[cA (by rw[<-hl];simpa using h)] at a
  exact (Option.some.inj a).symm
 have c:j<its.toArray.size:=by
  simp only[eT,hl];exact L
 have hz:=g.length;have l63:=ki;refine Xj YG ⟨_,e,rfl⟩ F.entry_list_index (F.args_list_index_2 _ _)
  (SeqAt.list_indexAt p its.toArray n none #[] u (fun w=>va (VB s.heap w) (toPy d)) j c ?_ ?_ fun m l o=>?_) ⟨e,SeqAt.items_eqAt (by simpa using i) J k1 k2 (Wa b.2 r),?_⟩
 ·rw[eT] at c
  lia
 ·show va (VB s.heap its.toArray[j]) (toPy d)=true;rw[get j c];exact hit
 ·show va (VB s.heap its.toArray[m]) (toPy d)=false;rw[get m l];exact W8.mpr (k m o)
 ·exact⟨.int (j:Int),H,I.tok _,⟨_,rfl⟩,q⟩
def qy(f:DF)(fa:AF):DF:=fun Z=>(f Z).bind fun p=>(fa p.2).bind fun q=>match p.1,q.1 with
 | .lst ds,[d]=>if bH (.lst ds)&&bH d then (qH d ds).map fun j:Nat=>(.int (j:Int),q.2) else none
 | _,_=>none
theorem Nh{o e:gi}{pos g:u3}{f:DF}{fa:AF}(ho:DD X o f)(D:DA X [e] fa)
 (E:∀{to:TE}{t:TA},PE X o to->PA X [e] t->PE X (.Call (.Attribute o "index" g) [e] [] pos) (rZ X.K "list" (A7 X.K) to t)):DD X (.Call (.Attribute o "index" g) [e] [] pos) (qy f fa):=by
 obtain⟨to,F,G⟩:=ho;obtain⟨t,p,q⟩:=D;refine⟨_,E F p,fun r s Z u H I d Z' Q b S k=>?_⟩
 obtain⟨c,Z1,J,b⟩:=oB b;cases l:fa Z1 with
 | none=>rw[l] at b;exact nO b
 | some ap =>
  obtain⟨as,Z2⟩:=ap;rw[l] at b;dsimp only[hH] at b;split at b
  ·rename_i ds x;split at b
   ·rename_i h;have h:=kH.mp h;obtain⟨j,L,b⟩:=oM b;obtain⟨rfl,rfl⟩:=sP b;refine G r s Z u H I _ Z1 _ J S fun v M z A N O=>?_
    obtain⟨a,B,rfl,C,rs⟩:=O;refine⟨.inl ⟨rfl,B,.inl (Rd.mono A.sub C)⟩,q r s Z1 u M z _ _ _ l A fun vs R i m n T=>?_⟩
    obtain⟨y,yr,rfl,U,V⟩:=T;subst V;exact⟨i,ds,x,y,a,B,j,rfl,rfl,m.sub,Rd.mono m.sub (Rd.mono n C),ax.mono n rs,U,h.1,h.2,L,k _ R i m (N.trans n) rfl⟩
   ·exact nO b
  ·exact nO b
theorem bf.Pe{x a:eA}{st:Uz}{f:dR}{e:hQ}{N d:List eA}{k:Nat}{sp:Sp}(F:bf K x a st f e)(S:bw N d (aJ st))(len:∀vs H Q E,sp vs H Q E->vs.length=d.length)
 (c:∀(b:bR) (A:n6) (outer:List Xo) (s:dr) (H:Hp) (vs:List V) (Q:VK) (E:XK),Room k (A.deeper (Vu a (aJ st) s.heap.objs.size f b))->sp vs H Q E ->
   ∃t,fA (dA (dF P w) P w K mg base N a (aJ st) f b A outer s H E) (fZ st) t/\t {nx:=fun _ i=>Q .aB i,rt:=Q} (start N vs) H):aO P w K mg base (dF P w) (k+1) f e d sp:=by
 obtain⟨oc,od,kV,doc,pm,an,b,ct,osl,rfl,lk,g⟩:=F.ex;exact BN lk g S len fun A outer s H vs Q E j h=>c b A outer s H vs Q E j h
theorem PS.gY{X:Cx}{st:Uz}{t:TS}(h:PS X.gY st t):PS X st t:=fun a s b H D I hw =>
 u2 (h a s b H D (I.il _) hw) (fun _ _ q=>SP.jY q) fun _ _ z=>z.elim
inductive iF where
 | ok (r:Res)|exc (C:dR)
abbrev gh:=List Dat->Option iF
def Q8(K:fj)(H d:Hp)(Q:VK)(E:XK):iF->Prop
 | .ok r=>∀v c b,ag H c->ag d b->ag b c->(∀p o,b p=some o->gg d H p o)->RC K H c b v r->Q v c
 | .exc C=>∀a c b,ag H c->ag d b->ag b c->(∀p o,b p=some o->gg d H p o)->E (.ref C) (some a) c
def iO(K:fj)(fn:gh):Sp:=fun vs H Q E=>∃a ds r,ag a H/\ax K a ds vs/\fn ds=some r/\Q8 K H a Q E r
def hZ(n:Nat)(f:SF):gh:=fun ds=>(f (dX n ds)).bind fun o=>match o with
 | .next _=>some (.ok (.dat .aB))
 | .ret r _=>some (.ok r)
 | .exc C _=>some (.exc C)
 | _=>none
theorem QY{x n:eA}{st:Uz}{f:dR}{I:hQ}{N D:List eA}{k:Nat}{fn:gh}{fb:SF}(F:bf K x n st f I)(S:bw N D (aJ st))(G:∀ds r,fn ds=some r->ds.length=D.length)
 (L:∀(u:bR) (A:n6) (outer:List Xo) (s:dr) (H:Hp) (E:XK),Room k (A.deeper (Vu n (aJ st) s.heap.objs.size f u))->fG (dA (dF P w) P w K mg base N n (aJ st) f u A outer s H E) (fZ st) fb)
 (M:∀ds r,fn ds=some r->hZ N.length fb ds=some r):aO P w K mg base (dF P w) (k+1) f I D (iO K fn):=by
 refine F.Pe S (fun vs H Q E h=>?_) (fun u A outer s H vs Q E O h=>?_)
 ·obtain⟨y,ds,r,s,rs,e,_⟩:=h;rw[rs.length];exact G ds r e
 ·obtain⟨y,ds,r,sm,rs,e,B⟩:=h;obtain⟨t,p,q⟩:=L u A outer s H E O;refine⟨t,p,?_⟩;have m:=M ds r e;unfold hZ at m;obtain⟨o,R,m⟩:=oA m;have nw:∀{Z:DS}{l:St}{j i:Hp},SR K (H,y) (fun _=>none) Z l j i->∀p o,i p=some o->gg y H p o:=fun g p o e=>g.nw p o e
  have kp:∀{Z:DS}{l:St}{j i:Hp},SR K (H,y) (fun _=>none) Z l j i->ag H j:=fun g b o e=>g.keep b o e (fun ⟨_,z⟩=>by exact nO z)
  refine q (H,y) (fun _=>none) (dX N.length ds) (start N vs) H y o _ R (BR sm rs) ?_
  cases o with
  | next Z =>
   obtain rfl:=sO m;exact fun l j i g s'=>B .aB j i (kp g) s' g.sub (nw g) rfl
  | ret T Z =>
   obtain rfl:=sO m;refine fun v l j i g s' J=>B v j i (kp g) s' g.sub (nw g) ?_
   cases T with
   | dat d=>exact J
   | own c =>
    obtain⟨p,U,o,np,V,_⟩:=J;exact⟨p,U,o,V⟩
  | brk Z=>exact nO m
  | cont Z=>exact nO m
  | exc C Z =>
   obtain rfl:=sO m;refine fun l j i g s'=>⟨GS fun a=>?_,fun a=>Nk ?_⟩
   ·exact B a j i (kp g) s' g.sub (nw g)
   ·exact B a j i (kp g) s' g.sub (nw g)
end
structure Ov (X:Cx) (x:eA) (sp:Sp):Prop where
 gl:Gl X x
 ex:X.ex=[]
 is:∃(k:Nat) (f:dR) (fd:hQ) (pn:List eA),aO X.prog X.w X.K X.mg X.base (dF X.prog X.w) k f fd pn sp/\Room k X.A/\X.mg x=some (.ref f)/\VA X.K (.ref f)=true/\Binds X.K fd pn []
section
variable{X:Cx}{pos:u3}{K:fj}{H:Hp}{a b e:gi}{es:List gi}
noncomputable def ml(C:dR)(fa:AF):SF:=fun Z=>(fa Z).bind fun p=>if p.1.length<=dk then some (.exc C p.2) else none
theorem K3{x:eA}{C:dR}{e:gi}{es:List gi}{fa:AF}{B c f:String}{i:List bR}{n g:u3}(p:Zn B c f i)(r:X6 X.K C i c=true)(h:X.A.handled=none)(s:Gl X x)(hm:X.mg x=some (.ref C))(u:DA X (e::es) fa)
 (j:bb x:=by decide)(v:bp X e es:=by rfl)(k:(KX g (lq es X.env)).any (·.1)=false:=by rfl) :
  bU X (.Raise (some (.Call (.Name x n) (e::es) [] g)) none pos) (ml C fa):=by
 obtain⟨t,w,q⟩:=u;refine⟨_,Hm p r h s hm w j v k,fun y z Z l H E o D d S F=>?_⟩
 unfold ml at d;obtain⟨ds,Z1,G,d⟩:=oB d;split at d
 ·rename_i I;obtain rfl:=sO d;exact q y z Z l H E ds _ _ G S fun vs J m L M N=>⟨by rw[N.length];exact I,(F l J m L M).1⟩
 ·exact nO d
noncomputable def sE(f:SF):SF:=fun Z=>match f Z with
 | some (.exc _ _)=>none
 | o=>o
theorem bU.calm{st:Uz}{f:SF}(h:bU X.gY st f):bU X st (sE f):=by
 obtain⟨t,p,q⟩:=h;refine⟨t,p.gY,fun i j Z k H l o D c S m=>?_⟩
 unfold sE at c;have g:f Z=some o/\∀C d,o≠.exc C d:=by
  split at c
  ·exact nO c
  ·rename_i h;exact⟨c,fun C d z=>h C d (by rw[c,z])⟩
 refine q i j Z k H l o D g.1 S ?_;cases o with
 | exc C d=>exact absurd rfl (g.2 C d)
 | _=>exact m
theorem PE.or{X:Cx}{e:gi}{t u:TE}(h:PE X e t)(h':PE X e u):PE X e (fun c H Q=>t c H Q\/u c H Q):=fun d s c H Q I q=>q.elim (h d s c H Q I) (h' d s c H Q I)
theorem PS.or{X:Cx}{e:Uz}{t u:TS}(h:PS X e t)(h':PS X e u):PS X e (fun D c H=>t D c H\/u D c H):=fun d s c H D I q=>q.elim (h d s c H D I) (h' d s c H D I)
theorem PG.or{X:Cx}{e:gi}{t u:TG}(h:PG X e t)(h':PG X e u):PG X e (fun v c H Q=>t v c H Q\/u v c H Q):=fun d s c H v z Q I r q=>q.elim (h d s c H v z Q I r) (h' d s c H v z Q I r)
def EO(n:Nat)(t:iV):TG:=fun v c H Q=>∃a xs,v=.ref a/\Rd H a (.lst xs)/\xs.length=n/\t xs c H Q
theorem Oq{es:List gi}{k:Nat}{t:iV}{n:Nat}(i:X.calm=true)(h:mF X es t)
 (j:(ql es X.env).length=n:=by rfl)(d:(ql es X.env).findIdx? (·.1)=none:=by rfl):PG X (.Tuple es k pos) (EO n t):=by
 intro c s f H v u Q I r hw;obtain⟨a,xs,l,p,hl,hw⟩:=hw;subst l;subst r;obtain⟨z,its,m,g,e⟩:=p.ok I.ai;have q:s.heap.IsList a its.toArray:=⟨_,e,rfl,m,rfl⟩;refine cn (Xe ?_);delta unpack;rw[show (ql es X.env).length=its.toArray.size by simp[j,<-hl,g.length],d]
 refine cn (sH (W.kun_itemsOf (I.ok.hd i) q fun h' w=>?_))
 have x:=I.kept (t':=s.toks) fun b o e=>w b o (gs (eS e)) e
 exact h c _ f H xs _ Q x (g) hw
noncomputable def vI(n:Nat)(c:List Dat->DS->Option DS):GF
 | .tup ds,Z=>if ds.length=n then c ds Z else none
 | .lst ds,Z=>if ds.length=n then c ds Z else none
 | _,_=>none
theorem Ld{es:List gi}{n k:Nat}{g:List Dat->DS->Option DS}(i:X.calm=true)(h:mh X es g)
 (j:(ql es X.env).length=n:=by rfl)(c:(ql es X.env).findIdx? (·.1)=none:=by rfl):DG X (.Tuple es k pos) (vI n g):=by
 obtain⟨t,p,q⟩:=h;refine⟨_,PG.or (JC i p j c) (Oq i p j c),fun l m Z o H s d u v Q e S r k=>?_⟩
 unfold vI at e;split at e
 ·split at e
  ·rename_i hl;obtain⟨a,vs,rfl,f,rs⟩:=r;exact .inl ⟨a,vs,rfl,aV.mono S.sub f,by rw[rs.length];exact hl,q l m Z o H s _ u vs Q e S rs k⟩
  ·cases e
 ·split at e
  ·rename_i hl;obtain⟨a,vs,rfl,f,rs⟩:=r;exact .inr ⟨a,vs,rfl,Rd.mono S.sub f,by rw[rs.length];exact hl,q l m Z o H s _ u vs Q e S rs k⟩
  ·cases e
 ·exact nO e
noncomputable def Ca:Dat->String
 | .aB=>"NoneType" | .bl _=>"bool" | .int _=>"int" | .str _=>"str" | .tup _=>"tuple" | .lst _=>"list" | .bM _=>"dict" | .exc _=>"" | .ins _ _=>"" | .bW _=>"" | .adr _=>"" | .dC _=>"" | .aQ _ _=>""
noncomputable def uc(T c:String):Bool:=T==c||(T == "bool" && c == "int")
noncomputable def uP:List String:=["tuple","list","str","int","bool"]
theorem GP:∀T∈["NoneType","bool","int","str","tuple","list","dict"],∀c∈uP,UY [] (.type T) (.type c)=some (uc T c):=by decide +kernel
theorem mq{K:fj}{T c:String}(h:T∈["NoneType","bool","int","str","tuple","list","dict"])(h':c∈uP):UY K (.type T) (.type c)=some (uc T c):=by
 rw[<-GP T h c h'];rfl
noncomputable def isExc:Dat->Bool
 | .exc _=>true
 | .ins _ _=>true
 | .bW _=>true
 | .adr _=>true
 | .dC _=>true
 | .aQ _ _=>true
 | _=>false
def kj(d:Dat)(T:String):Option Bool:=if isExc d=false/\T∈uP then some (uc (Ca d) T) else none
def Fb(K:fj):List V->Hp->VK->Prop:=fun xs H Q=>∃c d x T b,xs=[x,.ty T]/\ag c H/\Rep K c d x/\kj d T=some b/\Q (.bl b) H
theorem Ny:bK X (.builtin "isinstance") (Fb X.K):=by
 intro m s D H xs us Q I r h;obtain⟨Hi,d,x,T,b,rfl,sm,g,e,q⟩:=h;obtain⟨u,c,rfl,j,v⟩:=r.two;subst v;delta kj at e;split at e
 case isFalse=>exact nO e
 case isTrue hh =>
  obtain rfl:=sO e;obtain⟨hx,k⟩:=hh;have f:∀tk,EP X m D Q (.bool (uc (Ca d) T)) {s with toks:=tk}:=fun tk=>⟨.bl _,H,I.tok _,rfl,q⟩
  cases d with
  | aB=>subst g;subst j;exact VV W.kitx_none I.dZ Vj (mq (by decide) k) (fun z=>nomatch z) f
  | bl y=>subst g;subst j;exact VV W.kitx_bool I.dZ Vj (mq (by decide) k) (fun z=>nomatch z) f
  | int i=>subst g;obtain⟨t,rfl⟩:=j;exact VV W.kitx_int I.dZ Vj (mq (by decide) k) (fun z=>nomatch z) f
  | str y=>subst g;obtain⟨t,rfl⟩:=j;exact VV W.kitx_str I.dZ Vj (mq (by decide) k) (fun z=>nomatch z) f
  | tup ds =>
   obtain⟨p,vs,rfl,w,_⟩:=g;cases j;obtain⟨its,_,⟨o,l,A,_⟩,_⟩:=I.tuple (aV.mono sm w);exact VV W.kitx_tuple I.dZ ⟨o,l,A⟩ (mq (by decide) k) (fun z=>nomatch z) f
  | lst ds =>
   obtain⟨p,vs,rfl,w,_⟩:=g;cases j;obtain⟨z,its,n,_,l⟩:=(Rd.mono sm w).ok I.ai;exact VV W.kitx_list I.dZ ⟨_,l,rfl⟩ (mq (by decide) k) (fun z=>nomatch z) f
  | bM B =>
   obtain⟨p,kvs,rfl,E,_⟩:=g;cases j;obtain⟨_,_,ws,_,o,es,ep,l,A,_⟩:=I.ai p _ (sm _ _ E);exact VV W.kitx_dict I.dZ ⟨o,l,A.1⟩ (mq (by decide) k) (fun z=>nomatch z) f
  | exc C=>contradiction
  | ins C fs=>contradiction
  | bW ns=>contradiction
  | adr p=>contradiction
  | dC B=>contradiction
  | aQ fz B=>contradiction
def lZ(T:String)(f:DF):DF:=fun Z=>(f Z).bind fun p=>(kj p.1 T).map fun b=>(.bl b,p.2)
theorem vD{e:gi}{f:DF}{g:eA}{T:String}{p q:u3}(r:DD X e f)(j:Gl X "isinstance")(l:X.mg "isinstance"=none)(m:Gl X g)(n:X.mg g=none)(s:Hz g=some (.type T))(u:g≠"__name__":=by decide)(hd:bb g:=by decide)
 (hs:bp X e [.Name g q]:=by rfl):DD X (.Call (.Name "isinstance" p) [e,.Name g q] [] pos) (lZ T f):=by
 obtain⟨t,w,x⟩:=r;refine⟨_,mT Ny j l (by decide +kernel) (dE w (dE (G5 (v:=.ty T) m n s rfl u hd) iY rfl) hs) (by decide) rfl hs rfl,fun y z Z A H B d Z' Q h S k=>?_⟩
 obtain⟨c,Z1,C,h⟩:=oB h;obtain⟨b,D,h⟩:=oM h;obtain⟨rfl,rfl⟩:=sP h;exact x y z Z A H B c _ _ C S fun v E i o F G=>⟨i,c,v,T,b,rfl,o.sub,G,D,k _ E i o F rfl⟩
def PL(K:fj):List V->Hp->VK->Prop:=fun xs H Q=>∃d C x c u b,xs=[x,c]/\RelV c u/\ag d H/\Rep K d (.exc C) x/\jP K C/\UY K (.ref C) u=some b/\Q (.bl b) H
theorem MK(g:PySem.Slot "ValueError" "__getattribute__" "BaseException.__getattribute__"):bK X (.builtin "isinstance") (PL X.K):=by
 intro pins s σ H xs us Q I r h;obtain⟨Hi,C,x,c,u,b,rfl,d,sm,⟨a,rfl,i⟩,k,e,q⟩:=h;obtain⟨xv,j,rfl,l,f⟩:=r.two;subst l;have m:j=u:=by
  cases c with
  | ref z=>subst f;subst d;rfl
  | ty z=>subst f;subst d;rfl
  | aB=>subst f;subst d;rfl
  | bl z=>subst f;subst d;rfl
  | _ =>
   obtain⟨t,z⟩:=d;subst z;exact absurd e (by dsimp only[UY,W.kitCls];simp)
 subst m;obtain⟨n,_,_⟩:=(show cm X.prog X.w H s.heap a (excAt a (.ref C)) from I.ai a _ (sm _ _ i))
 exact VV (zZ k g) I.dZ n e (fun z=>nomatch z) fun tk=>⟨.bl _,H,I.tok _,rfl,q⟩
def ou(neg:Bool):R2:=fun y x H Q=>∃a o,x=.ref a/\iH H a y o/\Q (.bl (if neg then !o.isSome else o.isSome)) H
theorem vO(c:X.A.units+1<uz):aI X (k7 .In) (ou false):=by
 intro pins s σ H x y v u Q I d f h;obtain⟨a,o,rfl,g,q⟩:=h;subst f;exact J4 c I g d fun s' i=>⟨.bl _,H,i,rfl,q⟩
theorem Dr(c:X.A.units+1<uz):aI X (k7 .NotIn) (ou true):=by
 intro pins s σ H x y v u Q I d f h;obtain⟨a,o,rfl,g,q⟩:=h;subst f;exact LC c I g d fun s' i=>⟨.bl _,H,i,rfl,q⟩
theorem NM:bK X (.type "dict") (fun xs H Q=>∃a kvs,xs=[.ref a]/\Rd H a (.dK kvs)/\∀p,H p=none->Q (.ref p) (upd H p (.dK kvs))):=by
 intro pins s σ H xs us Q I r h;obtain⟨a,kvs,rfl,c,q⟩:=h;obtain⟨u,rfl,d⟩:=r.one;subst d;exact Fj I c fun p s' f g=>⟨.ref p,_,g,rfl,q p f⟩
noncomputable def dc(c:List (eA×Dat))(k:eA):Option Dat:=(c.find? fun p=>decide (p.1=k)).map (·.2)
def vN(c:List (eA×Dat))(k:eA)(d:Dat):List (eA×Dat):=if (dc c k).isSome=true then c.map (fun p=>if p.1=k then (p.1,d) else p) else c++[(k,d)]
theorem bu.find:∀{c:List (eA×Dat)}{kvs:List (Key×V)}(k:eA),bu K H c kvs->(∀d,dc c k=some d->∃v,eV kvs (rp k)=some v/\Rep K H d v)/\(dc c k=none->eV kvs (rp k)=none)
 | [],_,k,h=>by
  rw[show _=[] from h]
  exact⟨fun d z=>by simp[dc] at z,fun _=>rfl⟩
 | (f,d')::c,_,k,⟨v,r,e,q,t⟩=>by
  rw[e];obtain⟨a,b⟩:=bu.find k t
  by_cases g:f=k
  ·subst g;have i:dc ((f,d')::c) f=some d':=by simp[dc]
   rw[i,oZ rfl];exact⟨fun d z=>⟨v,rfl,by obtain rfl:=sO z;exact q⟩,fun z=>by contradiction⟩
  ·have i:dc ((f,d')::c) k=dc c k:=by simp[dc,g]
   rw[i,oQ (by simpa using g)]
   exact⟨a,b⟩
theorem bu.has{c:List (eA×Dat)}{kvs:List (Key×V)}(k:eA)(h:bu K H c kvs):(eV kvs (rp k)).isSome=(dc c k).isSome:=by
 obtain⟨a,b⟩:=h.find k;cases e:dc c k with
 | none=>rw[b e];rfl
 | some d=>obtain⟨v,f,_⟩:=a d e;rw[f];rfl
theorem bu.iX:∀{c:List (eA×Dat)}{kvs:List (Key×V)}(k:eA) {d:Dat}{v:V},bu K H c kvs->Rep K H d v->bu K H (c.map fun p=>if p.1=k then (p.1,d) else p) (kvs.map fun p=>if p.1=rp k then (p.1,v) else p)
 | [],_,k,_,_,h,_=>by simp only[show _=[] from h];exact rfl
 | (i,d')::c,_,k,d,v,⟨w,r,e,q,t⟩,f=>by
  rw[e,hY,hY]
  by_cases g:i=k
  ·subst g;rw[if_pos rfl,if_pos rfl];exact⟨v,_,rfl,f,bu.iX i t f⟩
  ·rw[if_neg g,if_neg (by simpa using g)]
   exact⟨w,_,rfl,q,bu.iX k t f⟩
theorem bu.snoc:∀{f:List (eA×Dat)}{kvs:List (Key×V)}(k:eA) {d:Dat}{v:V},bu K H f kvs->Rep K H d v->bu K H (f++[(k,d)]) (kvs++[(rp k,v)])
 | [],_,k,_,v,h,c=>by rw[show _=[] from h];exact⟨v,[],rfl,c,rfl⟩
 | (_,_)::_,_,k,_,_,⟨w,r,e,q,t⟩,c=>⟨w,r++_,by rw[e];rfl,q,bu.snoc k t c⟩
theorem bu.put{c:List (eA×Dat)}{kvs:List (Key×V)}(k:eA){d:Dat}{v:V}(h:bu K H c kvs)(f:Rep K H d v):bu K H (vN c k d) (putK kvs (rp k) v):=by
 delta vN putK;rw[sY,h.has k];split
 ·exact h.iX k f
 ·exact h.snoc k f
def cu:Dat->Dat->Option Dat
 | .bM d,.str k=>dc d k
 | c,n=>qw c n
def mJ(f g:DF):DF:=fun Z=>(f Z).bind fun p=>(g p.2).bind fun q=>(cu p.1 q.1).map fun d=>(d,q.2)
def l6(i:Nat)(g:DF):DF:=fun Z=>((Z[i]?).bind iu).bind fun _=>(g Z).bind fun q=>((q.2[i]?).bind iu).bind fun c=>(cu c q.1).map fun d=>(d,q.2)
theorem Pa{f g:DF}(P:X.A.units+1<uz)(R:DD X a f)(T:DD X b g)(hs:ny b):DD X (.Subscript a b pos) (mJ f g):=by
 obtain⟨ta,F,G⟩:=R;obtain⟨tb,I,J⟩:=T;refine⟨_,PE.or (yI zi F I hs) (uf P F I hs),fun q r Z s H L d Z' Q e S k=>?_⟩
 obtain⟨c,Z1,M,e⟩:=oB e;obtain⟨n,Z2,N,e⟩:=oB e;dsimp only at e;cases h:cu c n with
 | none=>rw[h] at e;exact nO e
 | some d' =>
  rw[h] at e;cases e
  by_cases hd:∃t i,c=.bM t/\n=.str i
  ·obtain⟨t,i,rfl,rfl⟩:=hd;refine .inr (G q r Z s H L _ Z1 _ M S fun x u j w z B=>?_)
   refine J q r Z1 s u j _ _ _ N w fun y C l m o D=>?_
   obtain⟨p,kvs,rfl,U,V⟩:=Rep.mono o B;subst D;obtain⟨v,W,E⟩:=(V.find i).1 d h;refine⟨p,v,rfl,?_,k v C l m (z.trans o) E⟩;rw[<-W];exact iH.k (k:=rp i) (m.sub _ _ U)
  ·have O:qw c n=some d:=by
    delta cu at h;split at h
    ·rename_i t i;exact absurd ⟨t,i,rfl,rfl⟩ hd
    ·exact h
   refine .inl (G q r Z s H L _ Z1 _ M S fun x u j w z B=>?_)
   refine J q r Z1 s u j _ _ _ N w fun y C l m o D=>?_
   exact BG ((Rep.mono o B).top m.sub) D O fun v E=>k v C l m (z.trans o) E
theorem Hs{x:eA}{O:u3}{g:DF}(i:Nat)(P:X.A.units+1<uz)(w:X.N[i]?=some x)(z:cc X.env.scope x)(R:DD X b g)(hs:ny b)(hd:bb x:=by decide)(o:cH x:=by decide):DD X (.Subscript (.Name x O) b pos) (l6 i g):=by
 obtain⟨tb,B,C⟩:=R;refine⟨_,PE.or (yI zi (fg w z hd o) B hs) (uf P (fg w z hd o) B hs),fun D E Z F H G d Z' Q e S k=>?_⟩
 obtain⟨c0,T,e⟩:=oA e;obtain⟨n,Z2,I,e⟩:=oB e;obtain⟨c,J,e⟩:=oA e;dsimp only at e;cases f:cu c n with
 | none=>rw[f] at e;exact nO e
 | some d' =>
  rw[f] at e;cases e;obtain⟨L,a0,_⟩:=S.peek T
  by_cases hd:∃m h,c=.bM m/\n=.str h
  ·obtain⟨m,h,rfl,rfl⟩:=hd;refine .inr ⟨L,a0,C D E Z F H G _ _ _ I S fun y q j l r s=>?_⟩
   obtain⟨U,a1,t⟩:=l.peek J;rw[a0] at a1;cases a1;obtain⟨p,kvs,rfl,V,W⟩:=t;subst s;obtain⟨v,Y,u⟩:=(W.find h).1 d f;refine⟨p,v,rfl,?_,k v q j l r u⟩;rw[<-Y];exact iH.k (k:=rp h) V
  ·have M:qw c n=some d:=by
    delta cu at f;split at f
    ·rename_i m h;exact absurd ⟨m,h,rfl,rfl⟩ hd
    ·exact f
   refine .inl ⟨L,a0,C D E Z F H G _ _ _ I S fun y q j l r s=>?_⟩
   obtain⟨U,a1,t⟩:=l.peek J;rw[a0] at a1;cases a1;exact BG t s M fun v u=>k v q j l r u
def fI(neg:Bool):Dat->Dat->Option Res
 | .str k,.bM c=>some (.dat (.bl (if neg then !(dc c k).isSome else (dc c k).isSome)))
 | .str k,.dC c=>some (.dat (.bl (if neg then !(dc c k).isSome else (dc c k).isSome)))
 | d,e=>oV neg d e
theorem xh{neg:Bool}:eF X (fun x y H Q=>oh X.K neg x y H Q\/ou neg x y H Q) (fI neg):=by
 intro l m Z n H f x y d d' o Q e S g h k;delta fI at e;split at e
 ·cases e;rename_i c q;cases g;obtain⟨p,kvs,rfl,i,j⟩:=h;refine .inr ⟨p,_,rfl,iH.k (k:=rp c) (S.sub _ _ i),?_⟩;rw[j.has c];exact k _ H f S (ag.refl _) rfl
 ·cases e;rename_i c q;cases g;obtain⟨p,ob,kvs,rfl,i,j⟩:=h;refine .inr ⟨p,_,rfl,.inl ⟨kvs,rp c,.inr ⟨ob,S.sub _ _ i⟩,rfl,rfl⟩,?_⟩;rw[j.has c];exact k _ H f S (ag.refl _) rfl
 ·exact .inl (Lq l m Z n H f x y _ _ o Q e S g h k)
theorem BO(c:X.A.units+65<uz):aI X (k7 .In) (fun x y H Q=>oh X.K false x y H Q\/ou false x y H Q):=aI.or (QI c) (vO (by lia))
theorem Lo(c:X.A.units+65<uz):aI X (k7 .NotIn) (fun x y H Q=>oh X.K true x y H Q\/ou true x y H Q):=aI.or (Lj c) (Dr (by lia))
noncomputable def Ea:List Dat->Option Res
 | [.bM c]=>some (.own (.bM c))
 | _=>none
theorem Ka:CD X (fun xs H Q=>∃a kvs,xs=[.ref a]/\Rd H a (.dK kvs)/\∀p,H p=none->Q (.ref p) (upd H p (.dK kvs))) Ea:=by
 intro H0 ps Z σ H d vs ds o Q e S r k;delta Ea at e;split at e
 ·obtain rfl:=sO e;obtain⟨v,vr,rfl,⟨p,kvs,rfl,f,g⟩,h⟩:=r;subst h;refine⟨p,kvs,rfl,Rd.of (S.sub _ _ f),fun q c=>?_⟩
  exact k (.ref q) _ d (S.made c) (ag.refl _) ⟨q,rfl,⟨kvs,aU,g,S.dj c⟩,(S.bI c).2,(S.bI c).1,S.dP c⟩
 ·exact nO e
theorem Ia:aI X (L1 .Mult) (fun x y H Q=>∃l xs n,x=.ref l/\y=.int n/\Rd H l (.lst xs)/\(n=0\/n=1)/\∀p,H p=none->Q (.ref p) (upd H p (.lst (if n=0 then [] else xs)))):=by
 intro pins s σ H x y v u Q I d f h;obtain⟨l,xs,n,rfl,rfl,g,c,q⟩:=h;subst d;obtain⟨tk,rfl⟩:=f;obtain⟨z,its,k,r,e⟩:=g.ok I.ai;have hz:=r.length;have hsz:its.toArray.size*n.toNat<=sizeLine:=by
  rcases c with rfl|rfl
  ·simp
  ·simp;lia
 refine wpAny_binaryOp_repeat_ref rfl ⟨_,e,rfl⟩ (fun s'=>ZW s' n tk) noFill_list_mul
  F.fills_int_mul aal repeat_list F.slot_int_index.lookup ?_
 refine Xj aal (ZW s n tk) F.entry_int_rmul (F.args_int_rmul_2 _ _) (int___rmul___int_list n tk l its.toArray k) ⟨e,rfl,⟨_,e,rfl⟩,?_⟩;refine Xj F.slot_list_mul ⟨_,e,rfl⟩ F.entry_list_mul (F.args_list_mul_2 _ _)
  (AutoListH.list___mul___list_int_3 l its.toArray k n tk (by simp[aa1];lia) (by rw[zd] at hsz;lia) (by simp only[aa0];simpa using hsz)) ⟨e,?_⟩
 have i:(List.foldl (fun j m=>j++m) #[] (WH (if its.toArray.isEmpty=true then 0 else n.toNat) its.toArray))=(if n=0 then [] else its).toArray:=by
  rcases c with rfl|rfl
  ·split<;>simp
  ·split
   ·rename_i h;have:its=[]:=by simpa using h
    subst this;simp
   ·simp
 rw[i];refine⟨.ref _,_,I.ud ?_ ?_,rfl,q _ I.fresh⟩
 ·rcases c with rfl|rfl
  ·exact .nil
  ·exact r
 ·rcases c with rfl|rfl
  ·exact ro _
  ·simpa using z
noncomputable def DB(x:eA):It:=⟨fun i _=>i<x.cps.size,fun i H v d=>d=H/\∃c,x.cps[i]?=some c/\v=.str ⟨#[c]⟩,fun i _=>x.cps.size<=i⟩
theorem Mz{P:iN}{w:nE}{K:fj}{F:gi}(x:eA)(t:Tok)(it:dR):Turn P w K F (DB x) [it] it (fun i h=>h.IsStrIter it "str_ascii_iterator" x t i) where
 mem:=by simp
 obj:=fun i h st b f=>by
  have e:b=it:=by simpa using f
  subst e;obtain⟨o,e,c,d⟩:=st;exact⟨o,e,fun v z=>by rw[d] at z;contradiction⟩
 keep:=fun i h h' st k=>by
  obtain⟨o,e,c,d⟩:=st;exact⟨o,k it (by simp) o e,c,d⟩
 item:=by
  intro X m hw n B i g s C H E I j st p;obtain⟨q,r,G,u,y,A⟩:=j it (by simp)
  have D:=ma p;refine wpAny_pyNext_ascii_item st D fun h' l J=>?_
  have L:Inv X g C H {s with heap:=h',toks:=s.toks+1}:=I.turned (fun b o f e=>(J.2 b f).trans e) q r u y A
  obtain⟨o,e,c,d⟩:=id l;exact⟨_,rfl,nJ e c d rfl ⟨.str ⟨#[x.cps[i]]⟩,H,L,⟨_,rfl⟩,⟨rfl,_,D,rfl⟩,l,fun b f=>(j b f).1⟩⟩
 done:=by
  intro X m hw n B i g s C H E I j st p;obtain⟨q,r,G,u,y,A⟩:=j it (by simp)
  exact wpAny_pyNext_ascii_end (I.ok.hd B) st (Wh p) fun h' M=>⟨rfl,I.turned (fun b o f e=>M b o f e) q r u y A⟩
 self:=fun _ _ _ _ _ st h=>wpAny_pyIter_striter_ascii st h
def EW(te:TE):TI:=fun c H R=>te c H fun v d=>∃x,v=.str x/\x.cps.all (·<128)=true/\R (DB x) d
theorem Oe{g e:gi}{te:TE}(i:PE X e te):PI X g e (EW te):=by
 intro d s j H R I h;refine aC (i d s j H _ I h) fun v c ⟨y,k,f,l,m⟩=>?_
 obtain⟨x,rfl,n,q⟩:=m;obtain⟨t,rfl⟩:=l;refine wpAny_pyIter_ascii n ⟨c.heap.objs.size,[c.heap.objs.size],_,_,k,rfl,f.kept fun b o e=>eu _ e,Mz x t _,⟨_,hG _ rfl,rfl,rfl⟩,fun b p=>?_,q⟩
 rw[show b=c.heap.objs.size by simpa using p]
 exact f.la (eB _) (f.ai.fresh (eB _))
theorem As:∀{ys:List eA}{us:List bR},aD (ys.map V.str) us->Wl us ys
 | [],_,h=>by cases h;exact .nil
 | y::ys,_,h=>by
  cases h with
  | cons r t =>
   obtain⟨tk,rfl⟩:=r;exact .cons _ _ (As t)
theorem Ic:sZ X "str.join" (fun x vs H Q=>∃(sep:eA) (p:dR) (ys:List eA),x=.str sep/\vs=[.ref p]/\Rd H p (.lst (ys.map V.str))/\sep.length<=16/\(ys.map (·.length)).sum+ys.length<=1048576/\Q (.str (Wf sep ys)) H):=by
 intro pins s σ H x vs v us Q I c d h;obtain⟨sep,p,ys,rfl,rfl,f,g,i,q⟩:=h;obtain⟨t,rfl⟩:=c;obtain⟨u,rfl,j⟩:=d.one;subst j;obtain⟨z,its,n,r,e⟩:=f.ok I.ai;exact join_listW ⟨_,e,rfl,n,rfl⟩ (As r) g i fun t' k=>⟨.str _,H,I.tok k,⟨t',rfl⟩,q⟩
theorem u4:∀{bs:List Bool}{us:List bR},aD (bs.map V.bl) us->us=bs.map xr
 | [],_,h=>by cases h;rfl
 | b::bs,_,h=>by
  cases h with
  | cons r t =>
   cases (r)
   rw[u4 t];rfl
theorem Gj(bs:List Bool):((ka bs.length).all fun i=>(bs[i]?).getD true)=bs.all id:=by
 induction bs with
 | nil=>rfl
 | cons b r c =>
  simp only[f',Yh,V6,Wp,V6,<-c];rfl
theorem Mc(j:X.calm=true):bK X (.builtin "all") (fun xs H Q=>∃(p:dR) (bs:List Bool),xs=[.ref p]/\Rd H p (.lst (bs.map V.bl))/\Q (.bl (bs.all id)) H):=by
 intro pins s σ H xs us Q I r h;obtain⟨p,bs,rfl,k,q⟩:=h;obtain⟨u,rfl,l⟩:=r.one;subst l;obtain⟨z,its,n,m,e⟩:=k.ok I.ai;have d:=u4 m;subst d;have f:s.heap.IsList p (bs.map xr).toArray:=⟨_,e,rfl,n,rfl⟩;have o:p<s.heap.objs.size:=eS e;refine call_all_walk (UQ f ⟨s.heap.objs.size,[s.heap.objs.size,p],[s.heap.objs.size],(bs.map xr).toArray.size,_,_,fun i=>(bs[i]?).getD true,rfl,
  Walks.list (A:=X.A.in1) (I.ok.hd j) _ p (gs o) (bs.map xr).toArray,⟨⟨_,hG _ rfl,rfl,rfl⟩,f.push _⟩,fun i v s' Q' E' c g=>?_,fun h' tk t=>?_⟩)
 ·have c:(bs.map xr)[i]?=some v:=by simpa using c
  rw[eo] at c;obtain⟨b,d,c⟩:=oM c;obtain rfl:=sO c;simp only[d,V2] at g;exact z0 g
 ·have w:(ka (bs.map xr).toArray.size).all (fun i=>(bs[i]?).getD true)=bs.all id:=by
   rw[eT,a7];exact Gj bs
  rw[w];refine⟨.bl _,H,?_,rfl,q⟩;exact I.kept (t':=tk) fun b x ex=>t b x (fun hm=>by rw[eP.mp hm] at ex;exact wa _ (eS ex)) (eu _ ex)
noncomputable def alt{c d:Type}(f g:c->Option d):c->Option d:=fun a=>match f a with
 | some b=>some b
 | none=>g a
theorem wD{c d:Type}{f g:c->Option d}{a:c}{b:d}(h:alt f g a=some b):f a=some b\/g a=some b:=by
 delta alt at h;split at h
 ·rename_i e;obtain rfl:=sO h;exact .inl e
 ·exact .inr h
theorem DE.alt{e:gi}{f g:EF}(h:DE X e f)(h':DE X e g):DE X e (alt f g):=by
 obtain⟨t,p,q⟩:=h;obtain⟨t',n,o⟩:=h';exact⟨_,PE.or p n,fun c i Z j H l d m Q e S k=>(wD e).elim (fun e=>.inl (q c i Z j H l d m Q e S k)) fun e=>.inr (o c i Z j H l d m Q e S k)⟩
theorem bU.alt{st:Uz}{f g:SF}(h:bU X st f)(h':bU X st g):bU X st (alt f g):=by
 obtain⟨t,p,q⟩:=h;obtain⟨t',l,m⟩:=h';exact⟨_,PS.or p l,fun c d Z i H j o D e S k=>(wD e).elim (fun e=>.inl (q c d Z i H j o D e S k)) fun e=>.inr (m c d Z i H j o D e S k)⟩
theorem cX.alt{c iter:gi}{f g:IF}(h:cX X c iter f)(h':cX X c iter g):cX X c iter (alt f g):=by
 obtain⟨t,p,q⟩:=h;obtain⟨t',n,o⟩:=h';exact⟨_,PI.or p n,fun d i Z j H l items m R e S k=>(wD e).elim (fun e=>.inl (q d i Z j H l items m R e S k)) fun e=>.inr (o d i Z j H l items m R e S k)⟩
noncomputable def wZ:Dat->Dat->Option Res
 | .lst xs,.int n=>if n=0\/n=1 then some (.own (.lst (if n=0 then [] else xs))) else none
 | _,_=>none
theorem Mu:eF X (fun x y H Q=>∃l xs n,x=.ref l/\y=.int n/\Rd H l (.lst xs)/\(n=0\/n=1)/\∀p,H p=none->Q (.ref p) (upd H p (.lst (if n=0 then [] else xs)))) wZ:=by
 intro H0 ps Z σ H f x y d d' o Q e S g h k;delta wZ at e;split at e
 ·split at e
  ·rename_i i;obtain rfl:=sO e;obtain⟨p,vs,rfl,j,rs⟩:=g;subst h;refine⟨p,vs,_,rfl,rfl,Rd.mono S.sub j,i,fun q c=>?_⟩
   refine k (.ref q) _ f (S.made c) (ag.refl _) ⟨q,rfl,⟨_,aU,?_,S.dj c⟩,(S.bI c).2,(S.bI c).1,S.dP c⟩;split
   ·exact rfl
   ·exact rs
  ·exact nO e
 ·exact nO e
theorem EI{a b:gi}{f g:DF}(c:DD X a f)(d:DD X b g):DE X (.BinOp a .Mult b pos) (cw wZ f g):=kO Ia Mu c d
noncomputable def jN(f:DF):IF:=fun Z=>(f Z).bind fun p=>match p.1 with
 | .str x=>if x.cps.all (·<128)=true then some (x.cps.toList.map fun c=>.str ⟨#[c]⟩,p.2) else none
 | _=>none
theorem Mw{n e:gi}{f:DF}(h:DD X e f):cX X n e (jN f):=by
 obtain⟨t,p,q⟩:=h;refine⟨_,Oe p,fun o r Z s H u items Z' R g S k=>?_⟩
 obtain⟨c,Z1,w,g⟩:=oB g;dsimp only at g;split at g
 ·rename_i x;split at g
  ·rename_i z;obtain⟨rfl,rfl⟩:=sP g;refine q o r Z s H u _ _ _ w S fun v A l B C D=>?_
   subst D;refine⟨x,rfl,z,k _ A l B C fun i H' sm=>⟨fun d hd=>?_,fun hl=>?_⟩⟩
   ·rw[eo,n7] at hd;obtain⟨c,m,hd⟩:=oM hd;obtain rfl:=sO hd;refine⟨(Array.getElem?_eq_some_iff.mp m).1,fun v H2 y=>.inl ?_⟩
    obtain⟨E,c',j,F⟩:=y;rw[m] at j;obtain rfl:=sO j;exact⟨E,F⟩
   ·show x.cps.size<=i;simpa using hl
  ·exact nO g
 ·exact nO g
noncomputable def dv:List Dat->Option (List eA)
 | []=>some []
 | .str x::r=>(dv r).map (x::·)
 | _::_=>none
theorem lg{K:fj}{H:Hp}:∀{ds:List Dat}{vs:List V}{ys:List eA},dv ds=some ys->ax K H ds vs->vs=ys.map V.str
 | [],_,_,e,r=>by obtain rfl:=sO e;exact r
 | d::ds,_,_,e,⟨v,vr,c,f,rs⟩=>by
  cases d with
  | str x =>
   obtain⟨ys',g,e⟩:=oM e;obtain rfl:=sO e;simp only[c,lg g rs];subst f;rfl
  | _=>exact nO e
def p5(sep:eA)(f:DF):DF:=fun Z=>(f Z).bind fun p=>match p.1 with
 | .lst ds=>(dv ds).bind fun ys=>if sep.length<=16/\(ys.map (·.length)).sum+ys.length<=1048576 then some (.str (Wf sep ys),p.2) else none
 | _=>none
theorem Q2{sep:eA}{e:gi}{f:DF}{j:Nat}{l i:u3}(h:DD X e f)
 (s:∀{t:TA},PA X [e] t->PE X (.Call (.Attribute (.Constant (.str sep) j l) "join" i) [e] [] pos) (rZ X.K "str" (fun x vs H Q=>∃(sep:eA) (p:dR) (ys:List eA),x=.str sep/\vs=[.ref p]/\Rd H p (.lst (ys.map V.str))/\sep.length<=16/\(ys.map (·.length)).sum+ys.length<=1048576/\Q (.str (Wf sep ys)) H) (tC (.str sep)) t))
 (hs:bp X e []:=by rfl):DD X (.Call (.Attribute (.Constant (.str sep) j l) "join" i) [e] [] pos) (p5 sep f):=by
 obtain⟨t,p,q⟩:=h;refine⟨_,s (dE p iY hs),fun u w Z y H z d Z' Q g S k=>?_⟩
 obtain⟨c,Z1,A,g⟩:=oB g;dsimp only at g;split at g
 ·obtain⟨ys,B,g⟩:=oA g;split at g
  ·rename_i m;obtain⟨rfl,rfl⟩:=sP g;refine⟨rfl,q u w Z y H z _ _ _ A S fun v C n o D E=>?_⟩
   obtain⟨a,vs,rfl,r,rs⟩:=E;rw[lg B rs] at r;exact⟨sep,a,ys,rfl,rfl,Rd.mono o.sub r,m.1,m.2,k _ C n o D rfl⟩
  ·exact nO g
 ·exact nO g
noncomputable def jk:List Dat->Option (List Bool)
 | []=>some []
 | .bl x::r=>(jk r).map (x::·)
 | _::_=>none
theorem xg{K:fj}{H:Hp}:∀{ds:List Dat}{vs:List V}{ys:List Bool},jk ds=some ys->ax K H ds vs->vs=ys.map V.bl
 | [],_,_,e,r=>by obtain rfl:=sO e;exact r
 | d::ds,_,_,e,⟨v,vr,c,f,rs⟩=>by
  cases d with
  | bl x =>
   obtain⟨ys',g,e⟩:=oM e;obtain rfl:=sO e;simp only[c,xg g rs];subst f;rfl
  | _=>exact nO e
def mo:List Dat->Option Res
 | [.lst ds]=>(jk ds).map fun bs=>.dat (.bl (bs.all id))
 | _=>none
theorem IA:CD X (fun xs H Q=>∃(p:dR) (bs:List Bool),xs=[.ref p]/\Rd H p (.lst (bs.map V.bl))/\Q (.bl (bs.all id)) H) mo:=by
 intro H0 ps Z σ H d vs ds o Q e S r k;unfold mo at e;split at e
 ·rename_i ds';obtain⟨bs,f,e⟩:=oM e;obtain rfl:=sO e;obtain⟨v,vr,rfl,⟨a,ws,rfl,c,rs⟩,g⟩:=r;subst g;rw[xg f rs] at c;exact⟨a,bs,rfl,Rd.mono S.sub c,k _ H d S (ag.refl _) rfl⟩
 ·exact nO e
def xD(i:Nat)(d f:DF):SF:=fun Z=>(f Z).bind fun p=>((p.2[i]?).bind ownOf).bind fun _=>(d p.2).bind fun q=>((q.2[i]?).bind ownOf).bind fun s=>match s.2,q.1 with
 | .bM c,.str k=>if c.length<dk then some (.next (q.2.set i (kindAt s.1 (.bM (vN c k p.1))))) else none
 | _,_=>none
theorem JA{x:eA}{s pt:u3}{l e:gi}{u f:DF}(i:Nat)(M:X.A.units+1<uz)(O:X.N[i]?=some x)(P:cc X.env.scope x)(h:DD X e f)(Q:DD X l u)(hd:bb x:=by decide)(w:cH x:=by decide)
 (hs:xn e (some (.Subscript (.Name x s) l pt)) pos.line X.env=pure false:=by rfl):bU X (.Assign [.Subscript (.Name x s) l pt] e pos) (xD i u f):=by
 obtain⟨t,p,q⟩:=h;obtain⟨tk,R,T⟩:=Q;refine⟨_,An M (fg O P hd w) R p hs,fun z B Z m H U o D e S k=>?_⟩
 obtain⟨d,Z1,V,e⟩:=oB e;obtain⟨b0,c0,W,e⟩:=oB e;obtain⟨n,Z2,Y,e⟩:=oB e;dsimp only at e;cases g:(Z2[i]?).bind ownOf with
 | none=>rw[g] at e;exact nO e
 | some j =>
  obtain⟨io,c⟩:=j;simp only[g] at e;dsimp only[hH] at e;split at e
  ·rename_i ks C;split at e
   ·rename_i hz;obtain rfl:=sO e;refine q z B Z m H U d Z1 _ V S fun v H1 E F s1 r1=>?_
    obtain⟨a,r,_⟩:=F.at (jX W);refine⟨.ref a,r,T z B Z1 m H1 E _ Z2 _ Y F fun y H2 G I j r2=>?_⟩
    subst r2;obtain⟨b,J,ob⟩:=I.at (jX g);rw[r] at J;cases J;obtain⟨kvs,h1,L,h3⟩:=ob;refine⟨a,_,rfl,k8.k (k:=rp C) h1 (by rw[bu.length L];exact hz),?_⟩
    exact k m _ G (I.write (jX g) r ⟨_,aU,bu.put C L (Rep.mono j r1),h3⟩) (s1.trans j)
   ·exact nO e
  ·exact nO e
structure bj (P:iN) (w:nE) (K:fj) (mg:eA->Option bR) (base:nS) (x:eA) (k:Nat) (sp:Sp):Prop where
 is:∃(f:dR) (fd:hQ) (pn:List eA),aO P w K mg base bh k f fd pn sp/\mg x=some (.ref f)/\VA K (.ref f)=true/\Binds K fd pn []
structure j8 (P:iN) (w:nE) (K:fj) (mg:eA->Option bR) (base:nS) (x:eA) (k:Nat) (sp:Sp):Prop where
 is:∃(f:dR) (fd:hQ) (pn:List eA),aO P w K mg base (dF P w) k f fd pn sp/\mg x=some (.ref f)/\VA K (.ref f)=true/\Binds K fd pn []
structure fY (K:fj) (mg:eA->Option bR) (x:eA) (d:Dat):Prop where
 is:∃v u,mg x=some u/\RelV v u/\∀H,Rep K H d v
theorem bj.has{x:eA}{k:Nat}{sp:Sp}(h:bj X.prog X.w X.K X.mg X.base x k sp)(c:Gl X x)(d:Room k X.A):vA X x sp:=by
 obtain⟨f,g,pn,F,m,kp,b⟩:=h.is;exact⟨c,bh,k,f,g,pn,F,d,m,kp,b,NI⟩
theorem j8.has{x:eA}{k:Nat}{sp:Sp}(h:j8 X.prog X.w X.K X.mg X.base x k sp)(d:Gl X x)(g:Room k X.A)(c:X.ex=[]):Ov X x sp:=by
 obtain⟨f,i,pn,F,m,kp,b⟩:=h.is;exact⟨d,c,k,f,i,pn,F,g,m,kp,b⟩
theorem KN{x:eA}{d:Dat}(h:fY X.K X.mg x d)(c:Gl X x)(hd:bb x):DD X (.Name x pos) (fC d):=LR ⟨c,h.is⟩ hd
theorem PZ{x:eA}{fn:bc}{fa:AF}{p:u3}{k:Nat}(h:bj X.prog X.w X.K X.mg X.base x k (aY X.K fn))(f:Gl X x)(g:Room k X.A)(c:bb x)
 (i:bp X e es)(d:(KX pos (lq es X.env)).any (·.1)=false)(j:DA X (e::es) fa):DE X (.Call (.Name x p) (e::es) [] pos) (bY fn fa):=Jc (h.has f g) j c i d
theorem OI{x:eA}{fn:dI}{fa:AF}{p:u3}{k j i:Nat}(h:bj X.prog X.w X.K X.mg X.base x k (cO X.K j fn))(f:Gl X x)(g:Room k X.A)(c:bb x)
 (l:bp X e es)(d:(KX pos (lq es X.env)).any (·.1)=false)(m:qJ X (e::es) j i fa):DE X (.Call (.Name x p) (e::es) [] pos) (j0 fn i fa):=Ja (h.has f g) m c l d
theorem FD{x:eA}{d p:u3}{i:Nat}(f:X.N.findIdx? (·==x)=some i)(g:cc X.env.scope x)(h:Gl X "len")(hm:X.mg "len"=none)(hd:bb x)(c:cH x):DD X (.Call (.Name "len" p) [.Name x d] [] pos) (pO i):=NY i (eN f) g h hm hd c
theorem OG{fa:AF}{p:u3}(c:Gl X "int")(hm:X.mg "int"=none)(d:bp X e [])(f:DA X [e] fa):DE X (.Call (.Name "int" p) [e] [] pos) (bY mC fa):=qX NR KQ c hm (by decide +kernel) f (by decide) rfl d rfl
theorem MX{fa:AF}{p:u3}(c:X.calm=true)(d:Gl X "all")(hm:X.mg "all"=none)(f:bp X e [])(g:DA X [e] fa):DE X (.Call (.Name "all" p) [e] [] pos) (bY mo fa):=jK (Mc c) IA d hm (by decide +kernel) g (by decide) (by decide) f rfl
theorem NG{a b:gi}{fa:AF}{p:u3}(d:X.calm=true)(f:Gl X "min")(hm:X.mg "min"=none)(g:bp X a [b])(c:(KX pos (lq [b] X.env)).any (·.1)=false)(h:DA X [a,b] fa):DE X (.Call (.Name "min" p) [a,b] [] pos) (bY qS fa):=jK (FE d) M' f hm (by decide +kernel) h (by decide) rfl g c
theorem P1{a b:gi}{fa:AF}{p:u3}(d:X.calm=true)(f:Gl X "max")(hm:X.mg "max"=none)(g:bp X a [b])(c:(KX pos (lq [b] X.env)).any (·.1)=false)(h:DA X [a,b] fa):DE X (.Call (.Name "max" p) [a,b] [] pos) (bY xu fa):=jK (Fs d) PJ f hm (by decide +kernel) h (by decide) rfl g c
theorem K5{a b:gi}{f g:DF}(c:X.A.units+1<uz)(hs:ny b)(d:DD X a f)(h:DD X b g):DD X (.Subscript a b pos) (mJ f g):=Pa c d h hs
theorem P8{x:eA}{d:u3}{b:gi}{g:DF}{i:Nat}(f:X.N.findIdx? (·==x)=some i)(h:cc X.env.scope x)(j:X.A.units+1<uz)(hd:bb x)(c:cH x)(hs:ny b)(k:DD X b g):DD X (.Subscript (.Name x d) b pos) (l6 i g):=Hs i j (eN f) h k hs hd c
theorem GY{a b:gi}{f g:DF}(c:X.A.units+64<uz)(d:DD X a f)(h:DD X b g):DE X (.Compare a [.Eq] [b] pos) (cw (eX false) f g):=oP (Ep c) rB d h (j6 _)
theorem Ju{a b:gi}{f g:DF}(c:X.A.units+64<uz)(d:DD X a f)(h:DD X b g):DE X (.Compare a [.NotEq] [b] pos) (cw (eX true) f g):=oP (zx c) rB d h (j6 _)
theorem FL{a b:gi}{f g:DF}(c:X.A.units+65<uz)(hm:sW .In b=false)(d:DD X a f)(h:DD X b g):DE X (.Compare a [.In] [b] pos) (cw (fI false) f g):=oP (BO c) xh d h hm
theorem Gk{a b:gi}{f g:DF}(c:X.A.units+65<uz)(hm:sW .In b=false)(d:DD X a f)(h:DD X b g):DT X (.Compare a [.In] [b] pos) (fF (cw (fI false) f g)):=mf (BO c) xh d h hm
theorem Kl{a b:gi}{f g:DF}(c:X.A.units+65<uz)(hm:sW .NotIn b=false)(d:DD X a f)(h:DD X b g):DT X (.Compare a [.NotIn] [b] pos) (fF (cw (fI true) f g)):=mf (Lo c) xh d h hm
theorem Mn{a:gi}{f:DF}(h:DD X a f):DD X (.UnaryOp .USub a pos) (fun Z=>(f Z).bind fun p=>match p.1 with|.int i=>some (.int (-i),p.2)|_=>none):=by
 obtain⟨t,p,q⟩:=h;refine⟨_,Fi Fm p,fun l m Z n H o d Z' Q g S k=>?_⟩
 obtain⟨c,Z1,r,g⟩:=oB g;dsimp only at g;split at g
 ·obtain⟨rfl,rfl⟩:=sP g;refine q l m Z n H o _ _ _ r S fun v s j u w x=>?_
  subst x;exact⟨_,rfl,k _ s j u w rfl⟩
 ·exact nO g
noncomputable def gx(scope:Ux):List Str:=(scope.names.filter fun p=>p.2 != .globalImplicit).map (·.1)
def mQ(N:List eA)(scope:Ux):List (Option Nat):=(gx scope).map fun x=>if scope.names.lookup x==some .free then N.findIdx? (·==x) else none
theorem BY{N:List eA}{scope:Ux}{elt iter f:gi}{ifs:List gi}{fi:IF}{g:GF}{fc:BF}{fe:DF}(hnd:N.Nodup)(hXN:X.N=N)(i:X.calm=true)(B:i9 X.env.scope scope)(h:gv X.N (gx scope) scope (mQ N scope)=true)(hs:∀x,r0 iter X.env x=pure x)(j:cX X f iter fi)
 (k:∀(cl:List (eA×dR)) (C:dR) (c:dr) (H:Hp) (d:List dR),DG (bV X (gx scope) scope cl C c H d) f g)(l:∀(cl:List (eA×dR)) (C:dR) (c:dr) (H:Hp) (d:List dR),kn (bV X (gx scope) scope cl C c H d) ifs fc)
 (m:∀(cl:List (eA×dR)) (C:dR) (c:dr) (H:Hp) (d:List dR),DD (bV X (gx scope) scope cl C c H d) elt fe):DE X (.ListComp elt [⟨f,iter,ifs,0⟩] scope pos) (dm (mQ N scope) none fi g fc fe):=Pg i B h j k l m hs
theorem Jk{N:List eA}{scope:Ux}{elt iter h:gi}{ifs:List gi}{fi:IF}{g:GF}{fc:BF}{fe:DF}{y:eA}{py d:u3}{i:Nat}(k:N.Nodup)(l:X.N=N)(m:X.N.findIdx? (·==y)=some i)(o:Loc X.env.scope y)(p:X.fn y=true\/X.env.scope.names.lookup y=some .local)
 (n:xn (.ListComp elt [⟨h,iter,ifs,0⟩] scope pos) (some (.Name y py)) d.line X.env=pure true)(q:X.calm=true)(B:i9 X.env.scope scope)(j:gv X.N (gx scope) scope (mQ N scope)=true)(hs:∀x,r0 iter X.env x=pure x)(r:cX X h iter fi)
 (s:∀(cl:List (eA×dR)) (C:dR) (c:dr) (H:Hp) (f:List dR),DG (bV X (gx scope) scope cl C c H f) h g)(t:∀(cl:List (eA×dR)) (C:dR) (c:dr) (H:Hp) (f:List dR),kn (bV X (gx scope) scope cl C c H f) ifs fc)
 (u:∀(cl:List (eA×dR)) (C:dR) (c:dr) (H:Hp) (f:List dR),DD (bV X (gx scope) scope cl C c H f) elt fe):bU X (.Assign [.Name y py] (.ListComp elt [⟨h,iter,ifs,0⟩] scope pos) d) (gS i (dm (mQ N scope) none fi g fc fe)) :=
 Ha i (l ▸ k) (eN m) o p q B j r s t u n hs
theorem Ig{x:eA}{py:u3}{i:Nat}(c:X.N.Nodup)(d:X.N.findIdx? (·==x)=some i)(f:Loc X.env.scope x)(g:X.fn x=true\/X.env.scope.names.lookup x=some .local):DG X (.Name x py) (kD i):=II i c (eN d) f g
theorem Mp{x:eA}{fa:AF}{d c f:u3}{i:Nat}(m:X.N.findIdx? (·==x)=some i)(n:cc X.env.scope x)(hd:bb x)(k:cH x)(g:VH (.Name x d) "append" X.env (eval (.Name x d) X.env)=eval (.Name x d) X.env)
 (j:pU X pos e)
 (h:(c.endLine==pos.line)=true)(hs:bp X e [])(l:xn (.Call (.Attribute (.Name x d) "append" c) [e] [] pos) none f.line X.env=pure false)(o:DA X [e] fa) :
  bU X (.Expr (.Call (.Attribute (.Name x d) "append" c) [e] [] pos) f) (nN (jQ i nV fa)):=D1 (Oy i (eN m) n o hd k g j h hs) l
theorem QK{sep:eA}{f:DF}{j:Nat}{d c:u3}(g:VH (.Constant (.str sep) j d) "join" X.env (eval (.Constant (.str sep) j d) X.env)=eval (.Constant (.str sep) j d) X.env)
 (k:pU X pos e)
 (i:(c.endLine==pos.line)=true)(hs:bp X e [])(h:DD X e f):DD X (.Call (.Attribute (.Constant (.str sep) j d) "join" c) [e] [] pos) (p5 sep f) :=
 Q2 h (fun l=>sN PySem.F.plainAttrs_str PySem.F.slot_str_join PySem.F.type_str_join Ic A5 l g k i hs rfl) hs
theorem Pw{es:List gi}{k:Nat}{c:List Dat->DS->Option DS}(f:X.calm=true)(g:(ql es X.env).length=es.length)(d:(ql es X.env).findIdx? (·.1)=none)(h:mh X es c):DG X (.Tuple es k pos) (vI es.length c):=Ld f h g d
theorem kM{k:Nat}{A:n6}(h:Room k A):A.units+1<cLine:=by have:=h.un;lia
theorem tE{k:Nat}{A:n6}(h:Room k A):A.units+64<cLine:=by have:=h.un;lia
theorem tK{k:Nat}{A:n6}(h:Room k A):A.units+65<cLine:=by have:=h.un;lia
noncomputable def zp(sc scope:Ux):Bool:=scope.kind==.function&&scope.names.all (fun y=>y.2 != .cell&&(y.2 != .local||scope.names.lookup y.1==some .local)&&(y.2 != .free||sc.names.lookup y.1==some .cell||sc.names.lookup y.1==some .free))
theorem pR{d scope:Ux}(h:zp d scope=true):i9 d scope:=by
 delta zp at h;simp only[ee] at h;have g:∀y∈scope.names,y.2≠.cell/\(y.2=.local->scope.names.lookup y.1=some .local)/\(y.2=.free->d.names.lookup y.1=some .cell\/d.names.lookup y.1=some .free):=fun y c=>by
  have q:=ia.mp h.2 y c;simp at q;refine⟨q.1.1,fun z=>?_,fun z=>?_⟩
  ·rcases q.1.2 with w|w
   ·exact absurd z w
   ·exact w
  ·grind
 exact⟨by simpa using h.1,fun y c=>(g y c).1,fun y c=>(g y c).2.1,fun y c=>(g y c).2.2⟩
theorem O9{x:eA}{c:u3}{es:List gi}{g:AF}{i:Nat}(f:X.N.findIdx? (·==x)=some i)(j:cc X.env.scope x)(hs:lq (.Name x c::es) X.env=(false,eval (.Name x c) X.env)::lq es X.env)
 (hd:bb x)(d:cH x)(h:DA X es g):qJ X (.Name x c::es) 0 i g:=QL i (eN f) j h hs hd d
theorem LJ{e:gi}{es:List gi}{f:DF}{g:AF}(hs:bp X e es)(c:DD X e f)(d:DA X es g):DA X (e::es) (dJ f g):=KW c d hs
theorem ER{e:gi}{es:List gi}{g:GF}{c:List Dat->DS->Option DS}(hs:(ql (e::es) X.env).map (·.2)=Vg e X.env::(ql es X.env).map (·.2))(d:DG X e g)(f:mh X es c):mh X (e::es) (zW g c):=IT d f hs
theorem EN{c e:gi}{f:DF}{g:GF}(hs:Wq [c] e pos.line X.env=pure false)(hw:Wr [c] e X.env=pure none)(d:(ql [c] X.env).map (·.2)=[Vg c X.env])(h:DD X e f)(i:DG X c g):bU X (.Assign [c] e pos) (mZ g f):=Jh h i hs hw d
theorem MY{x:eA}{d pt:u3}{c e:gi}{g f:DF}{i:Nat}(k:X.N.findIdx? (·==x)=some i)(l:cc X.env.scope x)(m:X.A.units+1<uz)(hd:bb x)(j:cH x)
 (hs:xn e (some (.Subscript (.Name x d) c pt)) pos.line X.env=pure false)(h:DD X e f)(n:DD X c g):bU X (.Assign [.Subscript (.Name x d) c pt] e pos) (xD i g f):=JA i m (eN k) l h n hd j hs
theorem Mh{c iter:gi}{body:List Uz}{fi:IF}{g:GF}{fb:SF}(d:W4 (ib X.prog X.w) X.A X.env X.xe)(f:X.calm=true)(hs:∀x,r0 iter X.env x=pure x)(h:cX X c iter fi)(i:DG X c g)(j:fG X body fb):bU X (.For c iter body [] pos) (nA fi g fb):=Mj d f h i j hs
theorem Fh{c a:gi}{f:AF}{p pos:u3}(d:Gl X "range")(hm:X.mg "range"=none)(hs:lq [a] X.env=[(false,eval a X.env)])(h:DA X [a] f):cX X c (.Call (.Name "range" p) [a] [] pos) (nI f):=L4 d hm h hs
theorem Jl{e:gi}{f:DF}{l h:OF}{lo c:Option gi}{d:u3}(g:DD X e f)(hl:DO X lo l)(hh:DO X c h):DE X (.Subscript e (.Slice lo c none d) pos) (j7 f l h):=Ii g hl hh
theorem Lw{a:gi}{f:DF}(d:∀c,Ym a X.env c=(do let v <-c;Xz a.pos;UR [v] (ZX v)))(h:DD X a f):DT X a (nK f):=P4 h d
theorem PQ:aI X (k7 .LtE) (fun x y H Q=>∃i j,x=.str i/\y=.str j/\Q (.bl (!decide (j.cps.toList<i.cps.toList))) H):=by
 intro pins s σ H x y v u Q I c d h;obtain⟨i,j,rfl,rfl,q⟩:=h;obtain⟨t,rfl⟩:=c;obtain⟨t',rfl⟩:=d;exact PySem.P.le_str ⟨.bl _,H,I,rfl,q⟩
noncomputable def ig:Dat->Dat->Option Res
 | .int i,.int j=>some (.dat (.bl (decide (i<=j))))
 | .str i,.str j=>some (.dat (.bl (!decide (j.cps.toList<i.cps.toList))))
 | _,_=>none
def Cn:R2:=fun x y H Q=>gX (fun i j=>.bl (decide (i<=j))) x y H Q\/(fun x y H Q=>∃i j,x=.str i/\y=.str j/\Q (.bl (!decide (j.cps.toList<i.cps.toList))) H) x y H Q
theorem sM:aI X (k7 .LtE) Cn:=aI.or Pj PQ
theorem tW:eF X Cn ig:=by
 intro H0 ps Z σ H c x y d d' o Q e S f g k;delta ig at e;split at e
 ·cases e;subst f;subst g;exact .inl ⟨_,_,rfl,rfl,k _ H c S (ag.refl _) rfl⟩
 ·obtain rfl:=sO e;subst f;subst g;exact .inr ⟨_,_,rfl,rfl,k _ H c S (ag.refl _) rfl⟩
 ·exact nO e
noncomputable def jV(o1 o2:Dat->Dat->Option Res)(f g h:DF):DF:=fun Z=>(f Z).bind fun x=>(g x.2).bind fun y=>match o1 x.1 y.1 with
 | some (.dat (.bl true))=>(h y.2).bind fun z=>(match o2 y.1 z.1 with|some (.dat (.bl b))=>some (.bl b,z.2)|_=>none)
 | some (.dat (.bl false))=>some (.bl false,y.2)
 | _=>none
theorem G7{a b c:gi}{s t:X7}{D E:R2}{o1 o2:Dat->Dat->Option Res}{f g h:DF}(F:aI X (k7 s) D)(q:eF X D o1)(G:aI X (k7 t) E)(I:eF X E o2)(V:DD X a f)(W:DD X b g)(Y:DD X c h)
 (hm:W2 [s,t] [b,c]=false):DD X (.Compare a [s,t] [b,c] pos) (jV o1 o2 f g h):=by
 obtain⟨ta,pa,qa⟩:=V;obtain⟨tb,pb,qb⟩:=W;obtain⟨tc,pc,qc⟩:=Y;refine⟨_,Gh F G pa pb pc hm,fun j l Z m H Hi d Z' Q i S k=>?_⟩
 obtain⟨x,Z1,e1,i⟩:=oB i;obtain⟨y,Z2,e2,i⟩:=oB i;refine qa j l Z m H Hi x Z1 _ e1 S fun J H1 L S1 M N=>?_
 refine qb j l Z1 m H1 L y Z2 _ e2 S1 fun u O r P p w=>?_
 split at i
 ·rename_i A;refine q j l Z2 m O r J u x y _ _ A P (Rep.mono p N) w fun v B n C s3 o=>?_
  subst o;refine⟨true,rfl,?_⟩;obtain⟨z,Z3,e3,i⟩:=oB i;refine qc j l Z2 m B n z Z3 _ e3 C fun zv H4 R S4 s4 rz=>?_
  split at i
  ·rename_i b T;obtain⟨rfl,rfl⟩:=sP i;exact I j l _ m H4 R u zv y z _ Q T S4 (Rep.mono (s3.trans s4) w) rz fun v H5 U S5 s5 o=>k v H5 U S5 ((((M.trans p).trans s3).trans s4).trans s5) o
  ·exact nO i
 ·rename_i A;obtain⟨rfl,rfl⟩:=sP i;refine q j l _ m O r J u x y _ _ A P (Rep.mono p N) w fun v B n C s3 o=>?_
  subst o;refine⟨false,rfl,?_⟩;rw[if_neg (by simp)]
  exact k _ B n C ((M.trans p).trans s3) rfl
 ·exact nO i
theorem Gs{a b c:gi}{f g h:DF}(hm:W2 [.LtE,.LtE] [b,c]=false)(d:DD X a f)(i:DD X b g)(j:DD X c h):DD X (.Compare a [.LtE,.LtE] [b,c] pos) (jV ig ig f g h):=G7 sM tW sM tW d i j hm
theorem QD{f:DF}{p q:u3}(c:Gl X "isinstance")(d:X.mg "isinstance"=none)(g:Gl X "str")(h:X.mg "str"=none)(hs:bp X e [.Name "str" q])(i:DD X e f):DD X (.Call (.Name "isinstance" p) [e,.Name "str" q] [] pos) (lZ "str" f):=vD i c d g h (by decide +kernel) (by decide) rfl hs
theorem KR{f:DF}{p q:u3}(c:Gl X "isinstance")(d:X.mg "isinstance"=none)(g:Gl X "tuple")(h:X.mg "tuple"=none)(hs:bp X e [.Name "tuple" q])(i:DD X e f):DD X (.Call (.Name "isinstance" p) [e,.Name "tuple" q] [] pos) (lZ "tuple" f):=vD i c d g h (by decide +kernel) (by decide) rfl hs
theorem JQ{f:DF}{p q:u3}(c:Gl X "isinstance")(d:X.mg "isinstance"=none)(g:Gl X "list")(h:X.mg "list"=none)(hs:bp X e [.Name "list" q])(i:DD X e f):DD X (.Call (.Name "isinstance" p) [e,.Name "list" q] [] pos) (lZ "list" f):=vD i c d g h (by decide +kernel) (by decide) rfl hs
def oU(o1 o2:Dat->Dat->Option Res)(f g h:DF):BF:=fun Z=>(jV o1 o2 f g h Z).bind fun p=>match p.1 with
 | .bl b=>some (b,p.2)
 | _=>none
theorem GB{a b c:gi}{t u:X7}{w A:R2}{o1 o2:Dat->Dat->Option Res}{f g h:DF}(G:aI X (k7 t) w)(r:eF X w o1)(I:aI X (k7 u) A)(J:eF X A o2)(W:DD X a f)(Y:DD X b g)(hc:DD X c h)
 (hm:W2 [t,u] [b,c]=false):DT X (.Compare a [t,u] [b,c] pos) (oU o1 o2 f g h):=by
 obtain⟨ta,pa,qa⟩:=W;obtain⟨tb,pb,qb⟩:=Y;obtain⟨tc,pc,qc⟩:=hc;refine⟨_,PN G I pa pb pc hm,fun l m Z j H Hi d Z' Q n S k=>?_⟩
 obtain⟨dd,Z0,i,n⟩:=oB n;dsimp only at n;cases dd with
 | bl b0 =>
  obtain⟨rfl,rfl⟩:=sP n;obtain⟨x,Z1,e1,i⟩:=oB i;obtain⟨y,Z2,e2,i⟩:=oB i;dsimp only at i;refine qa l m Z j H Hi x Z1 _ e1 S fun L H1 M S1 N O=>?_
  refine qb l m Z1 j H1 M y Z2 _ e2 S1 fun B P s R q C=>?_
  split at i
  ·rename_i D;refine r l m Z2 j P s L B x y _ _ D R (Rep.mono q O) C fun v E o F s3 p=>?_
   subst p;refine⟨true,rfl,?_⟩;obtain⟨z,Z3,e3,i⟩:=oB i;dsimp only at i;refine qc l m Z2 j E o z Z3 _ e3 F fun zv H4 T S4 s4 rz=>?_
   split at i
   ·rename_i b U;cases i;exact J l m _ j H4 T B zv y z _ _ U S4 (Rep.mono (s3.trans s4) C) rz fun v H5 V S5 s5 p=>⟨_,p,k H5 V S5 ((((N.trans q).trans s3).trans s4).trans s5)⟩
   ·exact nO i
  ·rename_i D;cases i;refine r l m _ j P s L B x y _ _ D R (Rep.mono q O) C fun v E o F s3 p=>?_
   subst p;refine⟨false,rfl,?_⟩;rw[if_neg (by simp)]
   exact⟨_,rfl,k E o F ((N.trans q).trans s3)⟩
  ·exact nO i
 | _=>exact nO n
theorem Jo{a b c:gi}{f g h:DF}(hm:W2 [.LtE,.LtE] [b,c]=false)(d:DD X a f)(i:DD X b g)(j:DD X c h):DT X (.Compare a [.LtE,.LtE] [b,c] pos) (oU ig ig f g h):=GB sM tW sM tW d i j hm
end
noncomputable def zq:List eA->Bool
 | []=>true
 | x::r=>!(r.any (·==x))&&zq r
theorem wO:∀{l:List eA},zq l=true->l.Nodup
 | [],_=>z8
 | x::r,h=>by
  have h:=kH.mp h;refine me.mpr ⟨fun m=>?_,wO h.2⟩
  have:r.any (·==x)=true:=sj.mpr ⟨x,m,by simp⟩
  rw[this] at h;cases h.1
section
open PySem.W
inductive Comes {α:Type}(lt:Nat->Nat->Bool) (ok:Nat->Nat->Prop):KasT α->α->Prop
 | ret (a:α):Comes lt ok (.ret a) a
 | ask {i j:Nat}{k:Bool->KasT α}{a:α}(h:ok i j) (r:Comes lt ok (k (lt i j)) a):Comes lt ok (.ask i j k) a
theorem Comes.bind{c d:Type}{lt:Nat->Nat->Bool}{ok:Nat->Nat->Prop}{f:c->KasT d}{b:d}:∀{t:KasT c}{a:c},Comes lt ok t a->Comes lt ok (f a) b->Comes lt ok (t.bind f) b
 | _,_,.ret a,h=>h
 | _,_,.ask h r,q=>.ask h (r.bind q)
section
variable{lt:Nat->Nat->Bool}{n:Nat}
structure Ord (lt:Nat->Nat->Bool) (n:Nat):Prop where
 trans:∀i j k,lt i j=true->lt j k=true->lt i k=true
 total:∀i j,i<n->j<n->i≠j->lt i j=true\/lt j i=true
 fM:∀i,lt i i=false
abbrev okN(n:Nat):Nat->Nat->Prop:=fun i j=>i<n/\j<n/\i≠j
structure cK (p:Array Nat) (n:Nat):Prop where
 size:p.size=n
 lt:∀i,i<n->p.getD i 0<n
 inj:∀i j,i<n->j<n->p.getD i 0=p.getD j 0->i=j
 pm:p.toList.Perm (ka n)
theorem qG{p q:Array Nat}{i j:Nat}(h:p[i]?=q[j]?):p.getD i 0=q.getD j 0:=by
 simp[h]
theorem cK.ok{p:Array Nat}(P:cK p n){i j:Nat}(a:i<n)(b:j<n)(h:i≠j):okN n (p.getD i 0) (p.getD j 0):=⟨P.lt i a,P.lt j b,fun z=>h (P.inj i j a b z)⟩
noncomputable def dW(lt:Nat->Nat->Bool)(p:Array Nat)(m:Nat):Prop:=∀i j,i<j->j<m->lt (p.getD i 0) (p.getD j 0)=true
def Down(lt:Nat->Nat->Bool)(p:Array Nat)(m:Nat):Prop:=∀i j,i<j->j<m->lt (p.getD j 0) (p.getD i 0)=true
theorem dW.succ{p:Array Nat}{m:Nat}(O:Ord lt n)(P:cK p n)(h:dW lt p m)(hm:m<n)(h1:1<=m)(hl:lt (p.getD m 0) (p.getD (m-1) 0)=false):dW lt p (m+1):=by
 intro i j b hj
 by_cases z:j<m
 ·exact h i j b z
 ·have z:j=m:=by lia
  subst z;have a:lt (p.getD (j-1) 0) (p.getD j 0)=true:=by
   rcases O.total _ _ (P.lt j hm) (P.lt (j-1) (by omega)) (fun z=>by have:=P.inj j (j-1) hm (by omega) z;omega) with q|q
   ·rw[hl] at q;contradiction
   ·exact q
  by_cases c:i=j-1
  ·rw[c];exact a
  ·exact O.trans _ _ _ (h i (j-1) (by omega) (by omega)) a
theorem Down.succ{p:Array Nat}{m:Nat}(O:Ord lt n)(h:Down lt p m)(h1:1<=m)(hl:lt (p.getD m 0) (p.getD (m-1) 0)=true):Down lt p (m+1):=by
 intro i j a hj
 by_cases z:j<m
 ·exact h i j a z
 ·have z:j=m:=by lia
  subst z
  by_cases b:i=j-1
  ·rw[b];exact hl
  ·exact O.trans _ _ _ hl (h i (j-1) (by omega) (by omega))
theorem yg{p:Array Nat}(O:Ord lt n)(P:cK p n):∀(f m:Nat),1<=m->m+f<=n->dW lt p m->∃r,Comes lt (okN n) (kas_asc p f m) r/\m<=r/\r<=m+f/\dW lt p r/\(r<m+f->lt (p.getD r 0) (p.getD (r-1) 0)=true)
 | 0,m,i,j,g=>⟨m,.ret m,eB _,eB _,g,fun h=>by lia⟩
 | f+1,m,i,j,g=>by
  have ai:okN n (p.getD m 0) (p.getD (m-1) 0):=P.ok (by omega) (by omega) (by omega)
  cases hl:lt (p.getD m 0) (p.getD (m-1) 0) with
  | true =>
   refine⟨m,.ask ai ?_,eB _,by lia,g,fun _=>hl⟩
   rw[hl];exact .ret m
  | false =>
   obtain⟨r,a,b,c,d,e⟩:=yg O P f (m+1) (by lia) (by omega) (g.succ O P (by omega) i hl)
   refine⟨r,.ask ai ?_,by omega,by omega,d,fun h=>e (by omega)⟩
   rw[hl];exact a
theorem Bg{p:Array Nat}(O:Ord lt n)(P:cK p n):∀(f m:Nat),1<=m->m+f<=n->Down lt p m->∃r,Comes lt (okN n) (kas_desc f p m 0) (p,r,0)/\m<=r/\r<=m+f/\Down lt p r
 | 0,m,g,h,e=>⟨m,.ret _,eB _,eB _,e⟩
 | f+1,m,g,h,e=>by
  have ai:okN n (p.getD m 0) (p.getD (m-1) 0):=P.ok (by omega) (by omega) (by omega)
  cases hl:lt (p.getD m 0) (p.getD (m-1) 0) with
  | true =>
   obtain⟨r,a,b,c,d⟩:=Bg O P f (m+1) (by lia) (by omega) (e.succ O g hl)
   refine⟨r,.ask ai ?_,by omega,by omega,d⟩
   rw[hl];exact a
  | false =>
   refine⟨m,.ask ai ?_,eB _,by lia,e⟩
   rw[hl];have i:lt (p.getD (m-1) 0) (p.getD m 0)=true:=by
    rcases O.total _ _ ai.1 ai.2.1 ai.2.2 with q|q
    ·rw[hl] at q;contradiction
    ·exact q
   refine .ask ⟨ai.2.1,ai.1,fun z=>ai.2.2 z.symm⟩ ?_
   rw[i];exact .ret _
theorem cK.perm{p q:Array Nat}(P:cK p n)(d:q.Perm p)(h:q.size=p.size)(f:Nat->Nat)(a:∀i,i<n->f i<n/\q.getD i 0=p.getD (f i) 0)(g:∀i j,i<n->j<n->f i=f j->i=j):cK q n:=by
 refine⟨h.trans P.size,fun i hl=>?_,fun i j b c e=>?_,?_⟩
 ·rw[(a i hl).2];exact P.lt _ (a i hl).1
 ·rw[(a i b).2,(a j c).2] at e;exact g i j b c (P.inj _ _ (a i b).1 (a j c).1 e)
 ·exact (XP.mp d).trans P.pm
theorem yi{p:Array Nat}{m:Nat}(hm:m<=p.size)(k:Nat):(XD p 0 m).getD k 0=if k<m then p.getD (m-1-k) 0 else p.getD k 0:=by
 have h:=getElem?_mirror_all (i:=0) hm k;delta XD;split
 ·simp_all
 ·rename_i a;rw[if_neg (fun z=>a z.2)] at h
  exact qG h
theorem QN{p:Array Nat}{m:Nat}(P:cK p n)(hm:m<=n):cK (XD p 0 m) n:=by
 refine P.perm (by unfold XD;exact mirror_perm _ _ _ _) (by unfold XD;rw[mirror_size]) (fun k=>if k<m then m-1-k else k) (fun i a=>⟨by (try dsimp only);split<;>omega,?_⟩) fun i j a hj e=>?_
 ·rw[yi (by rw[P.size];exact hm)]
  (try dsimp only)
  split<;>rfl
 ·(try dsimp only at e)
  split at e<;>split at e<;>omega
theorem Ly{p:Array Nat}{m:Nat}(P:cK p n)(hm:m<=n)(h:Down lt p m):dW lt (XD p 0 m) m:=by
 intro i j hij a;rw[yi (by rw[P.size];exact hm),yi (by rw[P.size];exact hm),if_pos (by omega),if_pos a]
 exact h _ _ (by omega) (by omega)
theorem uX{p:Array Nat}(O:Ord lt n)(P:cK p n){k:Nat}(j:k<n)(e:dW lt p k):∀(f l r:Nat),l<=r->r<=k->r-l<=f->(∀i,i<l->lt (p.getD i 0) (p.getD k 0)=true)->(∀i,r<=i->i<k->lt (p.getD k 0) (p.getD i 0)=true) ->
  ∃m,Comes lt (okN n) (kas_place p k f l r) m/\m<=k/\(∀i,i<m->lt (p.getD i 0) (p.getD k 0)=true)/\(∀i,m<=i->i<k->lt (p.getD k 0) (p.getD i 0)=true)
 | 0,l,r,u,s,v,a,b=>⟨l,.ret l,by lia,a,fun i o=>b i (by lia)⟩
 | f+1,l,r,u,s,v,a,b=>by
  dsimp only[kas_place]
  by_cases g:l ≥ r
  ·rw[if_pos g];exact⟨l,.ret l,by lia,a,fun i o=>b i (by lia)⟩
  ·rw[if_neg g];have hm:(l+r)/2<r/\l<=(l+r)/2:=by omega
   have ai:okN n (p.getD k 0) (p.getD ((l+r)/2) 0):=P.ok j (by omega) (by omega)
   cases hl:lt (p.getD k 0) (p.getD ((l+r)/2) 0) with
   | true =>
    obtain⟨m,c,d⟩:=uX O P j e f l ((l+r)/2) hm.2 (by lia) (by omega) a (fun i o t=>by
     by_cases z:i=(l+r)/2
     ·rw[z];exact hl
     ·exact O.trans _ _ _ hl (e _ _ (by omega) t))
    refine⟨m,.ask ai ?_,d⟩;rw[hl];exact c
   | false =>
    have h:lt (p.getD ((l+r)/2) 0) (p.getD k 0)=true:=by
     rcases O.total _ _ ai.1 ai.2.1 ai.2.2 with q|q
     ·rw[hl] at q;contradiction
     ·exact q
    obtain⟨m,c,d⟩:=uX O P j e f ((l+r)/2+1) r (by lia) s (by omega) (fun i o=>by
     by_cases z:i=(l+r)/2
     ·rw[z];exact h
     ·exact O.trans _ _ _ (e i ((l+r)/2) (by omega) (by lia)) h) b
    refine⟨m,.ask ai ?_,d⟩;rw[hl];exact c
theorem Gm{p:Array Nat}{k l:Nat}(b:k<p.size)(hl:l<=k)(i:Nat):(bubble p k (k-l)).getD i 0=if i=l then p.getD k 0 else if l<i/\i<=k then p.getD (i-1) 0 else p.getD i 0:=by
 have h:=getElem?_bubble b (k-l) (by omega) i
 have e:k-(k-l)=l:=by omega
 rw[e] at h
 by_cases z:i=l
 ·rw[if_pos z] at h ⊢;exact qG h
 ·rw[if_neg z] at h ⊢
  by_cases a:l<i/\i<=k
  ·rw[if_pos a] at h ⊢;exact qG h
  ·rw[if_neg a] at h ⊢;exact qG h
theorem C4(O:Ord lt n):∀(f:Nat) (p:Array Nat) (k:Nat),cK p n->k+f=n->dW lt p k->∃q,Comes lt (okN n) (kas_bin f p k) q/\cK q n/\dW lt q n
 | 0,p,k,P,o,g=>⟨p,.ret p,P,by rw[<-o];exact g⟩
 | f+1,p,k,P,o,g=>by
  obtain⟨l,c,hl,a,b⟩:=uX O P (by lia) g k 0 k (ro _) (eB _) (by lia) (fun i h=>by lia) (fun i h hik=>by omega)
  have m:=Gm (p:=p) (k:=k) (l:=l) (by rw[P.size];omega) hl
  have t:cK (bubble p k (k-l)) n:=by
   refine P.perm (bubble_perm _ _ _) (bubble_size _ _ _) (fun i=>if i=l then k else if l<i/\i<=k then i-1 else i) (fun i h=>⟨by (try dsimp only);split<;>(try split)<;>omega,?_⟩) fun i j h u e=>?_
   ·rw[m]
    (try dsimp only)
    split
    ·rfl
    ·split<;>rfl
   ·(try dsimp only at e)
    split at e<;>split at e<;>(try split at e)<;>(try split at e)<;>lia
  have r:dW lt (bubble p k (k-l)) (k+1):=by
   intro i j s u;simp only[m i,m j];split
   ·rw[if_neg (by omega),if_pos (by omega)]
    exact b (j-1) (by lia) (by lia)
   ·split
    ·rw[if_neg (by omega),if_pos (by omega)]
     exact g _ _ (by omega) (by omega)
    ·split
     ·exact a i (by omega)
     ·split
      ·exact g _ _ (by lia) (by omega)
      ·exact g _ _ s (by lia)
  obtain⟨q,d,e⟩:=C4 O f (bubble p k (k-l)) (k+1) t (by lia) r
  exact⟨q,Comes.bind c d,e⟩
theorem C9:cK (VJ (ka n)) n:=by
 have g:∀i,i<n->(VJ (ka n)).getD i 0=i:=fun i a=>by
  simp[a]
 refine⟨by simp,fun i a=>by rw[g i a];exact a,fun i j a b e=>by simp only[g i a,g j b] at e;exact e,by simp⟩
theorem L5(O:Ord lt n)(hn:1<=n):∃q,Comes lt (okN n) (kas_sort n) q/\cK q n/\dW lt q n:=by
 have P:=C9 (n:=n);obtain⟨m,a,b,c,d,e⟩:=yg O P (n-1) 1 (eB _) (by omega) (fun i j l v=>by omega)
 have h:∀(p:Array Nat) (m:Nat),cK p n->1<=m->m<=n->dW lt p m->∃q,Comes lt (okN n) (if m<n then kas_bin (n-max m 1) p (max m 1) else .ret p) q/\cK q n/\dW lt q n:=fun p m P f g o=>by
  have e:max m 1=m:=by lia
  split
  ·rw[e];exact C4 O (n-m) p m P (by lia) o
  ·exact⟨p,.ret p,P,by rw[<-(show m=n from by lia)];exact o⟩
 by_cases k:m=n
 ·obtain⟨q,f,g⟩:=h _ m P b (by lia) d
  refine⟨q,Comes.bind (a:=(m,VJ (ka n))) (Comes.bind a ?_) f,g⟩;rw[if_pos (by simpa using k)]
  exact .ret _
 ·by_cases s:m>1
  ·obtain⟨q,f,g⟩:=h _ m P b (by lia) d
   refine⟨q,Comes.bind (a:=(m,VJ (ka n))) (Comes.bind a ?_) f,g⟩;rw[if_neg (by simpa using k),if_pos s]
   refine .ask (P.ok (by lia) (by omega) (by omega)) ?_
   rw[d 0 (m-1) (by omega) (by omega)]
   exact .ret _
  ·have hm:m=1:=by lia
   subst hm;have hl:=e (by lia)
   obtain⟨r,a1,b1,c1,w⟩:=Bg O P (n-2) 2 (by lia) (by lia) (fun i j l v=>by
    have f:i=0:=by lia
    have g:j=1:=by lia
    rw[f,g];exact hl)
   have t:=QN (m:=r) P (by omega)
   obtain⟨u,x,b2,c2,y,_⟩:=yg O t (n-r) r (by lia) (by lia) (Ly P (by omega) w)
   obtain⟨q,f,g⟩:=h _ u t (by lia) (by lia) y
   refine⟨q,Comes.bind (a:=(u,XD (VJ (ka n)) 0 r)) (Comes.bind a ?_) f,g⟩;rw[if_neg (by simpa using k),if_neg (by omega)]
   refine Comes.bind a1 ?_;rw[if_neg (by simp)]
   exact Comes.bind x (.ret _)
end
end
section
open PySem.W
theorem Comes.wp{c:Type}{lt:Nat->Nat->Bool}{ok:Nat->Nat->Prop}{b:Nat->Nat->(Bool->dr->Prop)->dr->Prop}{Q:c->dr->Prop}{s:dr}(d:∀i j,ok i j->∀C:Bool->dr->Prop,C (lt i j) s->b i j C s) :
  ∀{t:KasT c}{a:c},Comes lt ok t a->Q a s->t.kasWp b Q s
 | _,_,.ret a,q=>q
 | _,_,.ask h r,q=>d _ _ h _ (r.wp d q)
end
noncomputable def gd(h:nS)(L:dR):Heap:={h with objs:=h.objs.extract 0 L}
theorem Pz{a:Type}(xs:Array a)(L b:Nat):(xs.extract 0 L)[b]?=if b<L then xs[b]? else none:=by
 grind
theorem D2(h:nS)(L b:Nat):(gd h L).get? b=if b<L then h.get? b else none:=by
 delta gd Heap.get?;rw[Pz]
 by_cases a:b<L
 ·rw[if_pos a,if_pos a]
 ·rw[if_neg a,if_neg a]
theorem DC{h:nS}{L b:dR}{o:wm}(e:(gd h L).get? b=some o):b<L/\h.get? b=some o:=by
 rw[D2] at e;split at e
 ·rename_i a;exact⟨a,e⟩
 ·exact nO e
theorem EX{h:nS}{L b:dR}{o:wm}(a:b<L)(e:h.get? b=some o):(gd h L).get? b=some o:=by
 rw[D2,if_pos a];exact e
section
variable{X:Cx}{pins:List (dR×wm)}{σ:St}{H:Hp}{s:dr}{pos:u3}{e:gi}
theorem Inv.zC{m:eA->Option bR}(I:Inv X pins σ H s)(a:s.heap.Ns X.env.locals m):Fr (gd s.heap X.env.locals) X.env.locals s.heap m :=
 ⟨a,fun b o e=>(DC e).2,by show (s.heap.objs.extract 0 X.env.locals).size<=_;rw[Array.size_extract];exact sq (Nat.sub_le _ _) (Nat.min_le_left _ _)⟩
theorem Inv.FV{h':nS}{tk:Nat}{m:eA->Option bR}(I:Inv X pins σ H s)(hl:∀(i:Nat) (x:eA) (v:V),X.N[i]?=some x->σ[i]?=some (some v)->cc X.env.scope x->∃u,RelV v u/\Look X.env s.heap m x u)
 (t:h'.Ns X.env.locals m)(keep:∀b o,b≠X.env.locals->s.heap.get? b=some o->h'.get? b=some o):Inv X pins σ H {s with heap:=h',toks:=tk}:=by
 have gr:=I.gr;have f:∀b o,X.cE.heap.get? b=some o->b≠X.env.locals:=fun b o e=>gs (hI (eS e) I.ok.above)
 have a:∀x c,X.env.cells.lookup x=some c->∀v,s.heap.IsCell c v->h'.IsCell c v:=fun x c e v ⟨o,ho,hd⟩=>⟨o,keep c o (gr x c e) ho,hd⟩
 refine⟨I.ok,I.os,I.bare,⟨fun b o e n g h=>keep b o (f b o e) (I.base.keep b o e n g h),fun b o e n g h=>?_,I.base.free,fun b o e h=>?_,I.base.gJ,I.base.gB,I.base.gN⟩,⟨m,t,fun i x v w y A=>?_⟩,fun x c e=>?_,I.free,I.d9,fun p B=>?_,?_,I.len⟩
 ·obtain⟨sl,q⟩:=I.base.slot b o e n g h;exact⟨sl,keep b _ (f b o e) q⟩
 ·obtain⟨j,q⟩:=I.base.there b o e h;exact⟨j,keep b j (f b o e) q⟩
 ·obtain⟨u,r,l⟩:=hl i x v w y A;refine⟨u,r,?_⟩
  rcases l with l|⟨k,c,e,z⟩
  ·exact .inl l
  ·exact .inr ⟨k,c,e,a x c e _ z⟩
 ·obtain⟨v,z⟩:=I.cell x c e;exact⟨v,a x c e v z⟩
 ·obtain⟨e,n,ne,nf,d⟩:=I.pin p B;exact⟨keep p.1 p.2 ne e,n,ne,nf,d⟩
 ·exact I.ai.tracked fun b u g e=>keep b u (fun z=>g (z ▸ I.free)) e
theorem uk{h h':nS}{L:dR}{m:eA->Option bR}{a:List (dR×wm)}(F:Fr (gd h L) L h' m)(N:News (gd h L) L h' a)(sub:∀q∈ot (gd h L) h L,q∈a):∀b o,b≠L->h.get? b=some o->h'.get? b=some o:=fun b o c e=>by
 by_cases hl:b<L
 ·exact F.keep b o (EX hl e)
 ·have d:(gd h L).get? b=none:=by
   cases q:(gd h L).get? b with
   | none=>rfl
   | some u=>exact absurd (DC q).1 hl
  exact (N _ (sub _ (ve c d e))).1
theorem Ot{prog:iN}{w:nE}{A:n6}{E:bR->dr->Prop}{s:dr}{a:dR}{vs:List bR}{n:Nat}{P:Fin->dr->Prop}(ho:s.heap.get? a=some (Vt "list" vs.toArray n))(p:vs.length<2)
 (h:∀h' c,h'.get? a=some (Vt "list" vs.toArray c)->(∀b o,b≠a->s.heap.get? b=some o->h'.get? b=some o)->P (.done (.ret .none)) {s with heap:=h'}) :
  gW (ib prog w) A (Vs.«list.sort» ⟨[.ref a],[]⟩) P E s:=by
 rw[list_sort_plain];have k:=eS ho;refine cn (listItems_at ho rfl ?_);refine cn (abw ho rfl ?_);obtain⟨j,i⟩:∃j,(s.heap.update a (Vq fun _=>#[])).get? a=some (Vt "list" #[] j) :=
  ⟨_,aa7 ho (fun _=>#[])⟩
 refine cn (seqEpoch_at i rfl (cn (wpAny_newTuple (cn (YL (sH ?_))) (by rw[zd];simp;omega))))
 generalize l:(((s.heap.update a (Vq fun _=>#[])).push (Vt "tuple" vs.toArray 0)).push (Vt "list" #[] 0))=g at *
 have d:g.get? a=some (Vt "list" #[] j):=by
  rw[<-l,Zm _ _ _ (by rw[size_push',Xg];exact gs (V3 k)),
   Zm _ _ _ (by rw[Xg];exact gs k)]
  exact i
 have kp:∀b o,b≠a->s.heap.get? b=some o->g.get? b=some o:=fun b o f e=>by
  rw[<-l];refine eu _ (eu _ ?_);rw[UB _ _ (Ne.symm f)];exact e
 dsimp only;have m:vs.toArray.size<2:=by simpa using p
 rw[if_pos m,if_pos m];refine cn (eK ?_);refine cn (eK ?_);dsimp only;refine cn (seqEpoch_at d rfl (cn (abw d rfl ?_ (hsz2:=by simp[ZJ,aao];rw[zd];omega))))
 simp only[bne_self_eq_false,qh];refine eK ?_;have q:Array.map (fun x=>x.2) (ZJ (aao general' (vs.toArray.zip vs.toArray) #[] 7 none))=vs.toArray:=by
  rw[List.zip_toArray,List.map_toArray,Zx (eB _)]
 rw[q];refine h _ _ (aa7 d (fun _=>vs.toArray)) fun b o f e=>?_
 rw[UB _ _ (Ne.symm f)];exact kp b o f e
theorem Inv.vE{h':nS}{tk:Nat}{m:eA->Option bR}{D:dR}{o:HO}(I:Inv X pins σ H s)(hl:∀(i:Nat) (x:eA) (v:V),X.N[i]?=some x->σ[i]?=some (some v)->cc X.env.scope x->∃u,RelV v u/\Look X.env s.heap m x u)
 (r:h'.Ns X.env.locals m)(keep:∀b o,b≠X.env.locals->s.heap.get? b=some o->h'.get? b=some o)(a:s.heap.get? D=none)(hex:∀b∈X.ex,∃o,s.heap.get? b=some o)(g:cm X.prog X.w (upd H D o) h' D o):Inv X pins σ (upd H D o) {s with heap:=h',toks:=tk}:=by
 have J:Inv X pins σ H {s with heap:=h',toks:=tk}:=I.FV hl r keep
 have h:=I.ai.dead a;have ne:∀b u,H b=some u->b≠D:=fun b u q z=>by rw[z,h] at q;exact nO q
 have t:X.env.locals≠D:=fun z=>by
  obtain⟨_,⟨oL,_,_,f,_⟩,_⟩:=I.loc;rw[z,a] at f;exact nO f
 refine⟨J.ok,J.os,J.bare,⟨J.base.keep,J.base.slot,fun b ob e n j=>?_,J.base.there,fun b xs e=>?_,fun b ob u e=>?_,fun b y e=>?_⟩,J.loc,J.cell,?_,fun x c e=>?_,fun p k=>?_,fun b u e=>?_,J.len⟩
 ·have z:b≠D:=fun z=>by
   obtain⟨o',q⟩:=I.base.there b ob e j;rw[z,a] at q;exact nO q
  rw[aw z];exact J.base.free b ob e n j
 ·have q:=J.base.gJ b xs e;rw[aw (ne b _ q)];exact q
 ·have q:=J.base.gB b ob u e;rw[aw (ne b _ q)];exact q
 ·obtain⟨more,q⟩:=J.base.gN b y e;exact⟨more,by rw[aw (ne b _ q)];exact q⟩
 ·rw[aw t];exact J.free
 ·obtain⟨v,oc,ho,hd⟩:=I.cell x c e;rw[aw (fun z=>by rw[z,a] at ho;exact nO ho)]
  exact J.d9 x c e
 ·obtain⟨q,n,nl,nf,d⟩:=J.pin p k;have l:=(I.pin p k).1;exact⟨q,by rw[aw (fun z=>by rw[z,a] at l;exact nO l)];exact n,nl,nf,d⟩
 ·by_cases z:b=D
  ·subst z;rw[aU] at e;obtain rfl:=sO e;exact g
  ·rw[aw z] at e;exact (J.ai b u e).fW (fun c w' hc q=>q) (fun c q=>by rw[aw (ne c _ q)];exact q) fun c xs q=>by rw[aw (ne c _ q)];exact q
theorem dD{a:Type}{l:List a}{i:Nat}{d:a}(h:i<l.length):l.getD i d=l[i]:=by
 simp only[mA,cA h];rfl
noncomputable def lj(fs:List eA)(i j:Nat):Bool:=decide ((fs.getD i UJ).cps.toList<(fs.getD j UJ).cps.toList)
theorem kY{a b:eA}(h:a.cps.toList=b.cps.toList):a=b:=by
 obtain⟨⟨a⟩⟩:=a;simp_all
theorem N9{fs:List eA}(nd:fs.Nodup):Ord (lj fs) fs.length where
 trans:=fun i j k c a=>decide_eq_true (U1 (of_decide_eq_true c) (of_decide_eq_true a))
 total:=fun i j d f b=>by
  delta lj;rw[dD d,dD f]
  by_cases h:fs[i].cps.toList<fs[j].cps.toList
  ·exact .inl (decide_eq_true h)
  ·refine .inr (decide_eq_true ?_)
   by_cases a:fs[j].cps.toList<fs[i].cps.toList
   ·exact a
   ·have e:=kY (Vm (LS.mp a) (LS.mp h));exact absurd ((um nd).mp e) b
 fM:=fun i=>decide_eq_false (P2 _)
def lI(K:fj)(H:Hp)(vs:List V)(fs:List eA):Prop:=vs.length=fs.length/\∀(i:Nat) (f:eA),fs[i]?=some f->∃a b,vs[i]?=some (.ref a)/\aV K H a b/\b[0]?=some (.str f)
def Ordered(fs:List eA)(vs out:List V):Prop:=∃q:Array Nat,cK q vs.length/\dW (lj fs) q vs.length/\out=q.toList.map fun i=>vs.getD i .aB
def rV(K:fj):List V->Hp->VK->Prop:=fun xs H Q=>∃p vs fs,xs=[.ref p]/\Rd H p (.lst vs)/\lI K H vs fs/\fs.Nodup/\vs.length<64/\∀out,Ordered fs vs out->∀l,H l=none->Q (.ref l) (upd H l (.lst out))
theorem BU{vs:List V}{its:List bR}(r:aD vs its):∀(l:List Nat),(∀i∈l,i<vs.length)->aD (l.map fun i=>vs.getD i .aB) (l.map fun i=>its.getD i .none)
 | [],_=>.nil
 | i::l,h=>by
  have b:=h i fv;have a:i<its.length:=by rw[<-r.length];exact b
  refine .cons ?_ (BU r l fun j d=>h j (fm _ d))
  obtain⟨u,c,f⟩:=r.get (cA b);simp only[dD b,dD a];rw[cA a] at c;obtain rfl:=sO c;exact f
theorem qu{q:Array Nat}{n:Nat}(P:cK q n):∀i∈q.toList,i<n:=fun i b=>by
 obtain⟨k,c,e⟩:=qt b;have a:k<q.size:=by simpa using c
 have:=P.lt k (by rw[<-P.size];exact a)
 rw[nL,ma a] at this;have d:q[k]=i:=by simpa using e
 rw[<-d];exact this
theorem kat_tups{X:Cx}{pins:List (dR×wm)}{σ:St}{H:Hp}{s:dr}(I:Inv X pins σ H s):∀{fs:List eA}{vs:List V}{its:List bR},lI X.K H vs fs->aD vs its ->
  ∃c:List bR,XF s.heap its c/\c.length=fs.length/\(∀v∈c,∃x t,v=NN x t)/\∀(i:Nat) (f:eA),fs[i]?=some f->∃a o xs n t,its[i]?=some (.ref a)/\s.heap.get? a=some o/\o.data=.seq xs n/\xs[0]?=some (NN f t)
 | [],[],_,h,r=>by
  cases r;exact⟨[],.nil,rfl,fun v j=>by simp at j,fun i f e=>by simp at e⟩
 | [],_::_,_,h,_=>by simp[lI] at h
 | _::_,[],_,h,_=>by simp[lI] at h
 | f::fs,v::vs,_,h,r=>by
  cases r with
  | cons m rs =>
   obtain⟨a,ws,p,q,w⟩:=h.2 0 f rfl;obtain rfl:=sO p;subst m;have h':lI X.K H vs fs:=⟨by simpa using h.1,fun i g e=>by
    obtain⟨b,us,k,l,y⟩:=h.2 (i+1) g (e)
    exact⟨b,us,by simpa using k,l,y⟩⟩
   obtain⟨c,k1,k2,k3,A⟩:=kat_tups I h' rs;obtain⟨its,B,⟨o,ho,C,n,hd⟩,_⟩:=I.tuple q;obtain⟨u,D,E⟩:=B.get w;obtain⟨t,rfl⟩:=E;have d:its.toArray[0]?=some (NN f t):=by simpa using D
   refine⟨NN f t::c,.cons ho C hd d k1,by simp[k2],fun v j=>?_,fun i g e=>?_⟩
   ·rcases ey.mp j with z|z
    ·exact⟨f,t,z⟩
    ·exact k3 v z
   ·cases i with
    | zero =>
     simp at e;subst e;exact⟨a,o,_,n,t,rfl,ho,hd,d⟩
    | succ i =>
     obtain⟨b,F,xs,G,t',k,l⟩:=A i g (e)
     exact⟨b,F,xs,G,t',by simpa using k,l⟩
theorem KatTups.keeps{h h':nS}(k:∀b o xs n,o.data=.seq xs n->h.get? b=some o->h'.get? b=some o):∀{vs fs:List bR},XF h vs fs->XF h' vs fs
 | [],[],t=>t
 | [],_::_,t=>t.elim
 | _::_,[],t=>t.elim
 | _::_,_::_,⟨⟨a,o,xs,n,e,ho,c,hd,r⟩,t⟩=>⟨⟨a,o,xs,n,e,k _ _ _ _ hd ho,c,hd,r⟩,KatTups.keeps k t⟩
def uV(lt:Nat->Nat->Bool)(vs out:List V):Prop:=∃q:Array Nat,cK q vs.length/\dW lt q vs.length/\out=q.toList.map fun i=>vs.getD i .aB
theorem xb(S:X.ex=[]){lt:Nat->Nat->Bool}{pins:List (dR×wm)}{s:dr}{σ:St}{H:Hp}{p:dR}{vs:List V}{T:bR}{Q:VK}(I:Inv X pins σ H s)(rd:Rd H p (.lst vs))(h64:vs.length<64)(O:Ord lt vs.length)(hT:(T==T)=true)
 (M:∀its,aD vs its->∃x:List bR,XF s.heap its x/\x.length=vs.length/\∀v∈x,∀h:nS,W.Looks (ib X.prog X.w) h (typeOf v) T)
 (U:∀its,aD vs its->∀i j,i<vs.length->j<vs.length->i≠j->∀h':nS,(∀b o xs n,o.data=.seq xs n->s.heap.get? b=some o->h'.get? b=some o)->∀C:Bool->dr->Prop,C (lt i j) {s with heap:=h'}->gW (ib X.prog X.w) X.A.in1.in1 (keyLt' (tuples' (T != .type "tuple")) (its.getD i qo) (its.getD j qo)) C (fun _ _=>False) {s with heap:=h'})
 (q:∀out,uV lt vs out->∀l,H l=none->Q (.ref l) (upd H l (.lst out))):gW (ib X.prog X.w) X.A (call (.builtin "sorted") [.ref p]) (EP X pins σ Q) X.xe s:=by
 obtain⟨z,its,n,k,e⟩:=rd.ok I.ai;have a:=k.length;have Y:s.heap.IsList p its.toArray:=⟨_,e,rfl,n,rfl⟩;obtain⟨m,Z,hl⟩:=I.loc;have RB:=Z;obtain⟨oL,RD,RE,f,E,_⟩:=RB;have r:∀b∈X.ex,∃o,s.heap.get? b=some o:=fun b hb=>by rw[S] at hb;simp at hb
 by_cases h2:2<=its.length
 ·obtain⟨x,M,kl,ks⟩:=M its k;have Fl:=I.zC Z;have Nl:News (gd s.heap X.env.locals) X.env.locals s.heap (ot (gd s.heap X.env.locals) s.heap X.env.locals):=B2;refine W.kat_sorted Fl Nl Y h2 (by omega) fun D e1 h' F' N F=>?_
  have kp:=uk F' N fun q P=>fm _ P
  have G:∀b o xs n,o.data=.seq xs n->s.heap.get? b=some o->h'.get? b=some o:=fun b o xs n hd ho=>kp b o (fun z=>by rw[z,f] at ho;obtain rfl:=sO ho;rw[E] at hd;contradiction) ho
  have RI:=KatTups.keeps G M;refine W.kat_kind RI (by rw[kl,a];omega) (fun v hv=>ks v hv _) hT ?_
  ·have RJ:=a.symm;obtain⟨B,cq,pq,uq⟩:=L5 O (by omega)
   rw[RJ];refine cq.wp (fun i j ok C hC=>U its k i j ok.1 ok.2.1 ok.2.2 h' G C hC) ?_
   ·have d:s.heap.get? D=none:=by
     cases y:s.heap.get? D with
     | none=>rfl
     | some o =>
      have a1:=N (D,Vt "list" #[] e1) fv;exact absurd (F _ (ve a1.2.1 a1.2.2 y)) (wa _)
    refine W.KasFin.intro F' N (.head fun p hp=>gs (F p hp)) fun J c K L=>?_
    have t:=uk K L fun q P=>fm _ P
    have R:=(L _ fv).1
    have u:=pq;refine⟨.ref D,upd H D (.lst (B.toList.map fun i=>vs.getD i .aB)),I.vE hl K.ns t d r ?_,rfl,q _ ⟨B,u,uq,rfl⟩ D (I.ai.dead d)⟩
    refine⟨?_,_,c,BU k _ (qu u),R⟩;rw[a7,nr,u.size];exact z
 ·refine VR kind_sorted plain_sorted entry_sorted (args_sorted1 _) ?_;delta Vs.«sorted»
  refine cn (eK (cn (collect_list Y (cn (YL ?_ (by rw[zd];omega))) (by rw[zd];omega))))
  generalize hg:((s.heap.push (Vt "list" #[] 0)).update s.heap.objs.size (Vq (· ++ its.toArray)))=g;have RL:g.objs.size=s.heap.objs.size+1:=by rw[<-hg,Xg,size_push']
  have gk:∀b o,s.heap.get? b=some o->(g.push (Vt "list" its.toArray 0)).get? b=some o:=fun b o q=>by
   have lt:=eS q;refine eu _ ?_;rw[<-hg,UB _ _ (Xc lt)];exact eu _ q
  have gD:(g.push (Vt "list" its.toArray 0)).get? g.objs.size=some (Vt "list" its.toArray 0):=hG _ rfl;refine cn (sH (wy Yx ⟨_,gD,rfl⟩ Yf (Ot gD (by lia) fun h' c R kp=>⟨_,rfl,eK ⟨_,rfl,?_⟩⟩) (Yy _)))
  have d:s.heap.get? g.objs.size=none:=by
   cases y:s.heap.get? g.objs.size with
   | none=>rfl
   | some o =>
    have:=eS y;rw[RL] at this;exact absurd this (Nat.not_lt.mpr (WL _))
  have t:∀b o,b≠X.env.locals->s.heap.get? b=some o->h'.get? b=some o:=fun b o _ q=>kp b o (fun z=>by rw[z,d] at q;exact nO q) (gk b o q)
  have RO:h'.Ns X.env.locals m:=⟨oL,RD,RE,kp _ _ (fun z=>by rw[z,d] at f;exact nO f) (gk _ _ f),E,by assumption⟩
  have one:uV lt vs vs:=by
   refine⟨(ka vs.length).toArray,C9,fun i j hij hj=>by omega,?_⟩
   match vs,a with
   | [],_=>rfl
   | [v],_=>rfl
   | _::_::_,a=>exact absurd h2 (by simp at a;omega)
  refine⟨.ref g.objs.size,upd H g.objs.size (.lst vs),I.vE hl RO t d r ⟨z,its,c,k,R⟩,rfl,q vs one _ (I.ai.dead d)⟩
theorem N5(D:X.ex=[]):bK X (.builtin "sorted") (rV X.K):=by
 intro pins s σ H xs us Q I r h;obtain⟨p,vs,fs,rfl,N,c,nd,E,q⟩:=h;obtain⟨u,rfl,O⟩:=r.one;subst O;refine xb D (T:=.type "str") I N E (by rw[c.1];exact N9 nd) rfl (fun its y=>?_) (fun its y i j A B F h' n C P=>?_) q
 ·obtain⟨R,S,U,V,_⟩:=kat_tups I c y;refine⟨R,S,by rw[U];exact c.1.symm,fun v Y h=>?_⟩
  obtain⟨x,t,rfl⟩:=V v Y;exact Xa rfl
 ·obtain⟨_,_,_,_,w⟩:=kat_tups I c y;rw[c.1] at A B;obtain⟨a,o,xs,n1,t1,a1,Z,G,d⟩:=w i _ (cA A);obtain⟨b,o',ys,n2,t2,b1,b2,J,f⟩:=w j _ (cA B);have ea:its.getD i qo=.ref a:=by rw[mA,a1];rfl
  have eb:its.getD j qo=.ref b:=by rw[mA,b1];rfl
  rw[ea,eb];refine aaA (n _ _ _ _ G Z) G (n _ _ _ _ J b2) J ?_;obtain⟨g,k,ex⟩:∃g k,xs.toList=g::k:=by
   cases hx:xs.toList with
   | nil =>
    rw[<-n7,hx] at d;exact nO d
   | cons g k=>exact⟨g,k,rfl⟩
  obtain⟨l,m,L⟩:∃l m,ys.toList=l::m:=by
   cases hy:ys.toList with
   | nil =>
    rw[<-n7,hy] at f;exact nO f
   | cons l m=>exact⟨l,m,rfl⟩
  rw[<-n7,ex] at d;rw[<-n7,L] at f;obtain rfl:=sO d;obtain rfl:=sO f;simp only[ex,L];have M:fs[i]≠fs[j]:=fun z=>F ((um nd).mp z)
  refine ZH (Vz ?_);simp[decide_eq_false M];refine aaz (oneLt_str ?_);have:lj fs i j=decide (fs[i].cps.toList<fs[j].cps.toList):=by unfold lj;rw[dD A,dD B]
  simp only[<-this];exact P
def pL(c:List eA):Prop:=c.Pairwise fun a b=>¬(b.cps.toList<a.cps.toList)
theorem xP{vs:List bR}{g:List eA}(h:Wl vs g){xs:Array Keyed}(d:xs.Perm (pairsOf vs))(hs:SortedToK strKind xs (pairsOf vs).size) :
  ∃a,Wl (xs.map (·.2)).toList a/\a.Perm g/\pL a:=by
 obtain⟨a,a1,v,_⟩:=sorted_out_str h d hs;refine⟨a,a1,v,?_⟩;have hsz:xs.size=(pairsOf vs).size:=d.size_eq;have f:∀p,p∈xs.toList->p.1=p.2/\p.1∈vs:=fun p k=>mem_zip_self (by
  have hl:xs.toList.Perm (vs.zip vs):=by rw[<-pairsOf_toList];exact XP.mp d
  exact hl.mem_iff.mp k)
 have b:a.length=xs.size:=by
  have:=a1.strs;rw[<-this];simp
 have get:∀(i:Nat) (c:i<a.length),KK strKind xs i=a[i].cps.toList:=fun i c=>by
  have l:i<xs.size:=by rw[<-b];exact c
  have w:=a1.strs;have m:=f xs[i] (by simp)
  obtain⟨y,t,n⟩:=h.all _ m.2;have x:xs[i]=(NN y t,xs[i].2):=by rw[<-n]
  rw[KK_str l x];have o:a[i]?=some y:=by
   simp only[<-w,eo,n7,Array.getElem?_map,ma l];simp;rw[<-m.1,n];rfl
  rw[cA c] at o;obtain rfl:=sO o;rfl
 delta pL;rw[oy];intro i j c r u;have q:=hs i j (Xd u) (by simp only[<-hsz,<-b];exact r)
 rw[get i c,get j r] at q;exact of_decide_eq_false q
def sU:List V->Hp->VK->Prop:=fun xs H Q=>∃p kvs b,xs=[.ref p]/\Rd H p (.dK kvs)/\kvs.map (·.1)=b.map rp/\kvs.length<64/\∀a,a.Perm b->pL a->∀l,H l=none->Q (.ref l) (upd H l (.lst (a.map V.str)))
theorem tU:∀{us:List bR}{ys:List eA},Wl us ys->aD (ys.map V.str) us
 | _,_,.nil=>.nil
 | _,_,.cons y t r=>.cons ⟨t,rfl⟩ (tU r)
theorem Bk:∀{a:List eA}{vs:List bR},vs.length=a.length->(∀(j:Nat) (u:bR),vs[j]?=some u->∃y,a[j]?=some y/\jA (rp y) u=true)->Wl vs a
 | [],[],_,_=>.nil
 | [],_::_,h,_=>by simp at h
 | _::_,[],h,_=>by simp at h
 | y::a,v::vs,h,k=>by
  obtain⟨y',b,c⟩:=k 0 v rfl;obtain rfl:=sO b
  rcases iL c with⟨i,t,z,_⟩|⟨x,t,z,d⟩
  ·contradiction
  ·cases z;rw[d];exact .cons _ _ (Bk (by simpa using h) fun j u e=>by simpa using k (j+1) u (e))
theorem JU(L:X.ex=[])(hc:X.calm=true):bK X (.builtin "sorted") sU:=by
 intro pins s σ H xs us Q I r h;obtain⟨p,kvs,E,rfl,rd,M,N,q⟩:=h;obtain⟨u,rfl,ru⟩:=r.one;subst ru;obtain⟨z,lo,O,n,dd⟩:=kh I.ai rd;obtain⟨ep,P⟩:=dd.dictAt;obtain⟨m,hn,hl⟩:=I.loc;have F:∀b∈X.ex,∃o,s.heap.get? b=some o:=fun b a=>by rw[L] at a;simp at a
 have Fl:=I.zC hn;have Nl:News (gd s.heap X.env.locals) X.env.locals s.heap (ot (gd s.heap X.env.locals) s.heap X.env.locals):=B2;have t:=n.length;have R:=n.keys;have v:E.length=kvs.length:=by
  have:=congrArg List.length M;simpa using this.symm
 refine W.kdu_sorted (W.kdl_dict lo) (I.ok.hd hc) Fl Nl P (by rw[zd];lia) fun B h' tk vs S G T A hv=>?_
 have J:Wl vs E:=Bk (by simp only[A,v,t]) fun j u e=>by
  obtain⟨k,x,e1,e2⟩:=hv j u e;have d:(O.map (·.1))[j]?=some k:=by rw[eo,e1];rfl
  simp only[<-R,M,eo] at d;cases U:E[j]? with
  | none=>rw[U] at d;exact nO d
  | some y =>
   rw[U] at d;obtain rfl:=sO d;exact⟨y,rfl,e2⟩
 have K:=(G _ fv).1;have f:=(G _ fv).2;have l:vs.length<64:=by simp only[A,<-t];exact N
 refine wy Yx ⟨_,K,rfl⟩ Yf (aa6 YV K J.keysOf (fun v₁ v₂ rest e=>Zq (by rw[<-e];exact J)) l fun g a1 a2=>⟨_,rfl,?_⟩) (Yy _)
 obtain⟨C,b1,Y,b3⟩:=xP J a1 a2;obtain⟨c,hD⟩:=abv (out:=(ZJ g).map (·.2)) K;have i:s.heap.get? B=none:=by
  cases y:s.heap.get? B with
  | none=>rfl
  | some o=>exact absurd (T _ (ve f.1 f.2 y)) (wa _)
 have kp:=uk S G fun q hq=>fm _ hq
 have D:∀b o,b≠B->h'.get? b=some o->(sortedHeap h' B vs ((ZJ g).map (·.2))).get? b=some o:=fun b o a e=>(abk a (eS e)).trans e
 have Z:(sortedHeap h' B vs ((ZJ g).map (·.2))).Ns X.env.locals m:=by
  obtain⟨oL,es,RB,ho,r⟩:=S.ns;exact⟨oL,es,RB,D _ _ (fun z=>f.1 z.symm) ho,r⟩
 refine⟨.ref B,upd H B (.lst (C.map V.str)),I.vE hl Z (fun b o a e=>D b o (fun z=>by simp only[z,i] at e;exact nO e) (kp b o a e)) i F ⟨?_,_,c,tU b1,by simp only[hD,WG]⟩,rfl,q C Y b3 B (I.ai.dead i)⟩
 simp only[a7,Y.length_eq,v];exact z
theorem nX{f:Type}{R:f->f->Prop}(d:∀a b,R a b->R b a->a=b):∀{l c:List f},l.Perm c->l.Pairwise R->c.Pairwise R->l=c
 | [],c,p,_,_=>(List.Perm.eq_nil p.symm).symm
 | a::l,[],p,_,_=>by cases p.length_eq
 | a::l,b::c,p,h,h'=>by
  rw[tu] at h h';have e:a=b:=by
   have g:=p.mem_iff.mp fv;have i:=p.mem_iff.mpr fv
   rcases ey.mp g with z|z
   ·exact z
   ·rcases ey.mp i with y|y
    ·exact y.symm
    ·exact d a b (h.1 b y) (h'.1 a z)
  subst e;rw[nX d (List.Perm.cons_inv p) h.2 h'.2]
noncomputable def cB(a b:eA):Bool:=!decide (b.cps.toList<a.cps.toList)
def br(a:List eA):List Str:=a.mergeSort cB
theorem kd{a b:eA}:cB a b=true ↔ ¬(b.cps.toList<a.cps.toList):=by unfold cB;simp
theorem rE(a b c:eA)(d:cB a b=true)(f:cB b c=true):cB a c=true:=by
 rw[kd] at *;grind
theorem sd(a b:eA):(cB a b||cB b a)=true:=by
 delta cB
 grind
theorem yG(a:List eA):pL (br a):=by
 have:=ua (le:=cB) rE sd a;exact this.imp fun h=>kd.mp h
theorem pC{d c:List eA}(p:c.Perm d)(h:pL c):c=br d :=
 nX (fun a b f g=>kY (Vm (LS.mp f) (LS.mp g))) (p.trans (hA d cB).symm) h (yG d)
noncomputable def kB:Dat->Option eA
 | .tup (.str x::_)=>some x
 | _=>none
noncomputable def firstsD:List Dat->Option (List eA)
 | []=>some []
 | d::r=>(kB d).bind fun x=>(firstsD r).map (x::·)
def ie(d:Dat):Str:=(kB d).getD UJ
def dY(a b:Dat):Bool:=cB (ie a) (ie b)
def oO(ds:List Dat):List Dat:=ds.mergeSort dY
theorem Ed:∀{ds:List Dat}{fs:List eA},firstsD ds=some fs->fs=ds.map ie/\∀d∈ds,∃x,kB d=some x
 | [],_,e=>by obtain rfl:=sO e;exact⟨rfl,fun d h=>by simp at h⟩
 | d::r,_,e=>by
  have e:(kB d).bind (fun x=>(firstsD r).map (x::·))=some _:=e
  cases a:kB d with
  | none=>rw[a] at e;exact nO e
  | some x =>
   rw[a] at e;cases b:firstsD r with
   | none=>rw[b] at e;exact nO e
   | some ys =>
    rw[b] at e;obtain rfl:=sO e;obtain⟨c,f⟩:=Ed b;refine⟨by simp[ie,a,c],fun d' hd=>?_⟩
    rcases ey.mp hd with z|z
    ·exact⟨x,by simp only[z,a]⟩
    ·exact f d' z
theorem Bs{K:fj}{H j:Hp}(s:ag j H):∀{ds:List Dat}{vs:List V}{fs:List eA},firstsD ds=some fs->ax K j ds vs->lI K H vs fs
 | [],_,_,e,r=>by
  obtain rfl:=sO e;rw[show _=[] from r]
  exact⟨rfl,fun i f e=>by simp at e⟩
 | d::ds,_,_,e,⟨v,vr,l,m,rs⟩=>by
  have e:(kB d).bind (fun x=>(firstsD ds).map (x::·))=some _:=e
  cases b:kB d with
  | none=>rw[b] at e;exact nO e
  | some x =>
   rw[b] at e;cases c:firstsD ds with
   | none=>rw[c] at e;exact nO e
   | some ys =>
    rw[c] at e;obtain rfl:=sO e;obtain⟨n,o⟩:=Bs s c rs;simp[l];refine⟨by simp[n],fun i f g=>?_⟩
    cases i with
    | zero =>
     simp at g;subst g;delta kB at b;split at b
     ·obtain rfl:=sO b;obtain⟨p,h,rfl,q,w1,wr,t,k,_⟩:=m;subst k;exact⟨p,h,rfl,aV.mono s q,by rw[t];rfl⟩
     ·exact nO b
    | succ i =>
     obtain⟨a,h,u,w⟩:=o i f (g)
     exact⟨a,h,by simpa using u,w⟩
theorem ax.pick{K:fj}{H:Hp}{ds:List Dat}{vs:List V}(r:ax K H ds vs):∀(l:List Nat),(∀i∈l,i<vs.length)->ax K H (l.map fun i=>ds.getD i .aB) (l.map fun i=>vs.getD i .aB)
 | [],_=>rfl
 | i::l,h=>by
  have b:=h i fv;have a:i<ds.length:=by rw[<-r.length];exact b
  obtain⟨v,c,d⟩:=r.get (cA a);refine⟨vs.getD i .aB,_,rfl,?_,ax.pick r l fun j f=>h j (fm _ f)⟩
  simp only[mA,c,cA a];exact d
theorem Qx(a b c:Dat)(d:dY a b=true)(f:dY b c=true):dY a c=true:=rE _ _ _ d f
theorem HB(a b:Dat):(dY a b||dY b a)=true:=sd _ _
theorem vB{a:Type}(l:List a)(d:a):(ka l.length).map (fun i=>l.getD i d)=l:=by
 apply ZA (by simp)
 intro i h1 b;simp only[z7,List.getElem_range,dD b]
theorem OH{ds:List Dat}{q:Array Nat}(nd:(ds.map ie).Nodup)(P:cK q ds.length)(U:dW (lj (ds.map ie)) q ds.length):(q.toList.map fun i=>ds.getD i .aB)=oO ds:=by
 have pm:(q.toList.map fun i=>ds.getD i .aB).Perm ds:=by
  have:=P.pm.map (fun i=>ds.getD i .aB)
  rw[vB] at this;exact this
 have m:∀i,i<ds.length->ie (ds.getD i .aB)=(ds.map ie).getD i UJ:=fun i c=>by
  rw[dD c,dD (by simpa using c)]
  simp
 have g:(q.toList.map fun i=>ds.getD i .aB).Pairwise (fun a b=>dY a b=true/\a∈ds/\b∈ds):=by
  rw[oy];intro i j c d n;have o:i<ds.length:=by rw[<-P.size];simpa using c
  have f:j<ds.length:=by rw[<-P.size];simpa using d
  refine⟨?_,pm.mem_iff.mp (UU _),pm.mem_iff.mp (UU _)⟩;have u:=U i j n f;have v:q.toList[i]'(by simpa using c)=q.getD i 0:=by
   simp only[nL,ma (by simpa using c)]
   simp
  have w:q.toList[j]'(by simpa using d)=q.getD j 0:=by
   simp only[nL,ma (by simpa using d)]
   simp
  simp only[z7,v,w];delta dY;rw[m _ (P.lt i o),m _ (P.lt j f),kd];have u:=of_decide_eq_true u;exact fun z=>P2 _ (U1 u z)
 have k:(oO ds).Pairwise (fun a b=>dY a b=true/\a∈ds/\b∈ds):=by
  have h:=ua (le:=dY) Qx HB ds;refine UN (fun x y p=>⟨p,?_,?_⟩) h
  ·exact (hA ds dY).mem_iff.mp x
  ·exact (hA ds dY).mem_iff.mp y
 refine nX (fun a b l A=>?_) (pm.trans (hA ds dY).symm) g k
 have e:=kY (Vm (LS.mp (kd.mp l.1)) (LS.mp (kd.mp A.1)));obtain⟨i,c,r⟩:=qt l.2.1;obtain⟨j,d,t⟩:=qt l.2.2;have B:(ds.map ie)[i]'(by simpa using c)=(ds.map ie)[j]'(by simpa using d):=by simp[r,t,e]
 have C:=(um nd).mp B;subst C;simp only[<-r,t]
def mL:List Dat->Option Res
 | [.bM a]=>if a.length<64 then some (.own (.lst ((br (a.map (·.1))).map .str))) else none
 | [.lst ds]=>(firstsD ds).bind fun fs=>if fs.Nodup/\ds.length<64 then some (.own (.lst (oO ds))) else none
 | _=>none
theorem rX{K:fj}{H:Hp}:∀{a:List (eA×Dat)}{kvs:List (Key×V)},bu K H a kvs->kvs.map (·.1)=(a.map (·.1)).map rp
 | [],_,h=>by rw[show _=[] from h];rfl
 | (k,d)::a,_,⟨v,r,e,q,t⟩=>by rw[e];simp[rX t]
theorem qd{K:fj}{H:Hp}:∀(a:List eA),ax K H (a.map .str) (a.map V.str)
 | []=>rfl
 | x::r=>⟨.str x,_,rfl,rfl,qd r⟩
theorem yO:CD X (fun xs H Q=>rV X.K xs H Q\/sU xs H Q) mL:=by
 intro H0 ps Z σ H g vs ds o Q a S r k;delta mL at a;split at a
 ·rename_i u;split at a
  ·rename_i b;obtain rfl:=sO a;obtain⟨v,w,rfl,⟨p,kvs,rfl,x,h⟩,f⟩:=r;subst f;refine .inr ⟨p,kvs,u.map (·.1),rfl,Rd.of (S.sub _ _ x),rX h,by rw[bu.length h];exact b,fun ss' pm j l hl=>?_⟩
   rw[pC pm j];exact k (.ref l) _ g (S.made hl) (ag.refl _) ⟨l,rfl,⟨_,aU,qd _,S.dj hl⟩,(S.bI hl).2,(S.bI hl).1,S.dP hl⟩
  ·exact nO a
 ·rename_i m;cases d:firstsD m with
  | none=>rw[d] at a;exact nO a
  | some fs =>
   rw[d] at a;simp only[hH] at a;split at a
   ·rename_i b;obtain rfl:=sO a;obtain⟨v,w,rfl,⟨p,y,rfl,z,rs⟩,f⟩:=r;subst f;have c:=rs.length;refine .inl ⟨p,y,fs,rfl,Rd.mono S.sub z,Bs S.sub d rs,b.1,by rw[c];exact b.2,fun out ⟨q,P,U,A⟩ l hl=>?_⟩
    obtain⟨n,_⟩:=Ed d;subst n;simp[c] at P U;have B:=OH b.1 P U;subst A;have t:=ax.pick rs q.toList (fun i C=>by rw[c];exact qu P i C)
    rw[B] at t;exact k (.ref l) _ g (S.made hl) (ag.refl _) ⟨l,rfl,⟨_,aU,t,S.dj hl⟩,(S.bI hl).2,(S.bI hl).1,S.dP hl⟩
   ·exact nO a
 ·exact nO a
structure jE (x:eA):Prop where
 mark:True
theorem CI{x:eA}{N:List eA}{scope:Ux}{elt iter c:gi}{ifs:List gi}{fi:IF}{g:GF}{fc:BF}{fe:DF}{kb j:Nat}(hl:jE x)(hnd:N.Nodup)(hXN:X.N=N)(hkb:(gx scope).findIdx? (·==x)=some kb)(hj:N.findIdx? (·==x)=some j)(f:X.calm=true)(B:i9 X.env.scope scope)(d:gv X.N (gx scope) scope (mQ N scope)=true)(hs:∀x,r0 iter X.env x=pure x)(h:cX X c iter fi)
 (i:∀(cl:List (eA×dR)) (C:dR) (a:dr) (H:Hp) (b:List dR),DG (bV X (gx scope) scope cl C a H b) c g)(k:∀(cl:List (eA×dR)) (C:dR) (a:dr) (H:Hp) (b:List dR),kn (bV X (gx scope) scope cl C a H b) ifs fc)
 (l:∀(cl:List (eA×dR)) (C:dR) (a:dr) (H:Hp) (b:List dR),DD (bV X (gx scope) scope cl C a H b) elt fe):DE X (.ListComp elt [⟨c,iter,ifs,0⟩] scope pos) (dm (mQ N scope) (some (kb,j)) fi g fc fe):=LA kb j f B d h i k l hs
end
noncomputable def jr:List Dat->List Dat->Bool
 | [],[]=>true
 | x::xs,y::ys=>dw x y&&jr xs ys
 | _,_=>false
theorem lR(i j:Int):dw (.int i) (.int j)=decide (i=j):=by
 rfl
theorem kA(i j:eA):dw (.str i) (.str j)=decide (i=j):=by
 rfl
theorem yo:∀xs ys:List Dat,VW (cy xs) (cy ys)=jr xs ys
 | [],[]=>by simp only[cy,VW];rfl
 | x::xs,[]=>by simp only[cy,cy,VW];rfl
 | [],y::ys=>by simp only[cy,cy,VW];rfl
 | x::xs,y::ys=>by
  simp only[cy,VW,yo xs ys];rfl
theorem yY(xs ys:List Dat):dw (.tup xs) (.tup ys)=jr xs ys:=by
 show va (.tuple (cy xs)) (.tuple (cy ys))=_;simp only[va,yo]
theorem wK(xs ys:List Dat):dw (.lst xs) (.lst ys)=jr xs ys:=by
 show va (.list (cy xs)) (.list (cy ys))=_;simp only[va,yo]
noncomputable def gQ:Dat->Bool
 | .aB=>true
 | .bl _=>true
 | .int _=>true
 | .str x=>r6 x
 | _=>false
def xZ:Dat->Bool
 | .tup ds=>ds.all gQ
 | .lst ds=>ds.all gQ
 | d=>gQ d
theorem oi{d:Dat}(h:gQ d=true):jH d=true/\(toPy d).canLay0=true/\(toPy d).depth=0:=by
 cases d<;>first|cases h|skip
 ·exact⟨rfl,by rw[toPy,U8],by rw[toPy,PyData.depth]<;>intros<;>simp⟩
 ·exact⟨rfl,by rw[toPy,U8],by rw[toPy,PyData.depth]<;>intros<;>simp⟩
 ·exact⟨rfl,by rw[toPy,U8],by rw[toPy,PyData.depth]<;>intros<;>simp⟩
 ·exact⟨rfl,by rw[toPy,U8];exact h,by rw[toPy,PyData.depth]<;>intros<;>simp⟩
theorem Eu{n:Nat}{p:Dat->Bool}(e:∀d,p d=true->jH d=true/\(toPy d).canLay0=true/\(toPy d).depth<=n):∀{ds:List Dat},ds.all p=true->jh ds=true/\VQ (cy ds)=true/\Xf (cy ds)<=n
 | [],_=>⟨rfl,by rw[cy,VQ],by simp only[cy,Xf];lia⟩
 | d::ds,h=>by
  simp only[V6,ee] at h;obtain⟨a,b,c⟩:=e d h.1;obtain⟨f,g,c'⟩:=Eu e h.2;refine⟨?_,?_,?_⟩
  ·simp only[jh,a,f];rfl
  ·simp only[cy,VQ,b,g];rfl
  ·dsimp only[cy,Xf];lia
theorem Qq{d:Dat}(h:xZ d=true):jH d=true/\(toPy d).canLay0=true/\(toPy d).depth<=1:=by
 have k:=@Eu 0 gQ fun d h=>⟨(oi h).1,(oi h).2.1,aaO (oi h).2.2⟩
 have l:gQ d=true->jH d=true/\(toPy d).canLay0=true/\(toPy d).depth<=1:=fun h=>⟨(oi h).1,(oi h).2.1,by rw[(oi h).2.2];omega⟩
 cases d with
 | tup ds =>
  obtain⟨a,b,c⟩:=k h;exact⟨by simp only[jH];exact a,by simp only[toPy,U8];exact b,by simp only[toPy,PyData.depth];omega⟩
 | lst ds =>
  obtain⟨a,b,c⟩:=k h;exact⟨by simp only[jH];exact a,by simp only[toPy,U8];exact b,by simp only[toPy,PyData.depth];omega⟩
 | _=>exact l h
theorem iZ{d:Dat}(h:xZ d=true):bH d=true:=by
 obtain⟨a,b,c⟩:=Qq h;dsimp only[bH,aaa];grind
theorem lb{i:Int}:bH (.int i)=true:=iZ rfl
theorem ju{x:eA}(h:r6 x=true):bH (.str x)=true:=iZ h
theorem zH{ds:List Dat}(h:ds.all gQ=true):bH (.tup ds)=true:=iZ h
theorem nj(d:Dat):∀ds:List Dat,inD d ds=ds.any fun y=>dw y d
 | []=>by unfold inD;simp only[cy];rfl
 | y::r=>by
  have:=nj d r;unfold inD at this ⊢;simp only[cy,UH,this];rfl
noncomputable def after(g:SF):Out->Option Out
 | .next Z=>g Z
 | o=>some o
noncomputable def pick{a:Type}(b:Bool)(x y:a):a:=if b=true then x else y
section
variable{f g:DF}{e:EF}{c c':BF}{s s':SF}{a:AF}{Z Z1 Z2 Z3:DS}{d d':Dat}{ds:List Dat}{r:Res}{b b':Bool}{o o1:Out}{oo:Option Out}
theorem v_after{g:SF}:(i8 s g Z)=(s Z).bind (after g):=by
 rfl
theorem rC{g:SF}(h:s Z=some o1)(h':after g o1=oo):i8 s g Z=oo:=by rw[v_after,h];exact h'
theorem rR{g:SF}(h:g Z=oo):after g (.next Z)=oo:=h
theorem J8{g:SF}{i:Res}{j:DS}(h:r=i)(h':Z=j):after g (.ret r Z)=some (.ret i j):=by rw[<-h,<-h'];rfl
theorem M4:(Res.dat d).val=d:=rfl
theorem uj(h:c Z=some (b,Z1))(h':pick b (s Z1) (s' Z1)=oo):j3 c s s' Z=oo:=by unfold j3;rw[h];exact h'
theorem xW{i:Type}{x y z:i}(j:b=true)(h:x=z):pick b x y=z:=by subst j;exact h
theorem rf{i:Type}{x y z:i}(j:b=false)(h:y=z):pick b x y=z:=by subst j;exact h
theorem v_and(h:c Z=some (b,Z1))(h':pick b (c' Z1) (some (false,Z1))=some (b',Z2)):lN c c' Z=some (b',Z2):=by unfold lN;rw[h];exact h'
theorem su(h:c Z=some (b,Z1))(h':c' Z1=some (b',Z1)):lN c c' Z=some (b&&b',Z1):=by
 delta lN;rw[h];cases b
 ·rfl
 ·exact h'
theorem v_or(h:c Z=some (b,Z1))(h':pick b (some (true,Z1)) (c' Z1)=some (b',Z2)):og c c' Z=some (b',Z2):=by unfold og;rw[h];exact h'
theorem D6(h:c Z=some (b,Z1))(h':c' Z1=some (b',Z1)):og c c' Z=some (b||b',Z1):=by
 delta og;rw[h];cases b
 ·exact h'
 ·rfl
theorem ff(h:c Z=some (b,Z1)):p7 c Z=some (!b,Z1):=by unfold p7;rw[h];rfl
theorem dM(h:f Z=some (d,Z1))(h':nR d=some b):nK f Z=some (b,Z1):=by unfold nK;rw[h];show (nR d).map _=_;rw[h'];rfl
theorem cb(h:e Z=some (.dat (.bl b),Z1)):fF e Z=some (b,Z1):=by unfold fF;rw[h];rfl
theorem tO(h:f Z=some (.bl b,Z1))(h':g Z1=some (.bl b',Z1)):tj f g Z=some (.bl (b&&b'),Z1):=by
 delta tj;rw[h];cases b
 ·rfl
 ·exact h'
theorem yq(h:f Z=some (.bl b,Z1))(h':g Z1=some (.bl b',Z1)):nG f g Z=some (.bl (b||b'),Z1):=by
 delta nG;rw[h];cases b
 ·exact h'
 ·rfl
theorem v_res(h:f Z=some (d,Z1)):rL f Z=some (.dat d,Z1):=by unfold rL;rw[h];rfl
theorem ah(h:e Z=some (r,Z1))(h':r.val=d):dG e Z=some (d,Z1):=by unfold dG;rw[h,<-h'];rfl
theorem au{op:Dat->Dat->Option Res}(h:f Z=some (d,Z1))(i:g Z1=some (d',Z2))(j:op d d'=some r):cw op f g Z=some (r,Z2):=by
 delta cw;simp_all
theorem kC{T:String}(h:f Z=some (d,Z1))(h':kj d T=some b):lZ T f Z=some (.bl b,Z1):=by unfold lZ;rw[h];show (kj d T).map _=_;rw[h'];rfl
theorem aZ{fn:bc}(h:a Z=some (ds,Z1))(h':fn ds=some r):bY fn a Z=some (r,Z1):=by unfold bY;rw[h];show (fn ds).map _=_;rw[h'];rfl
theorem cR{fn:dI}{i:Nat}{j:Bool×Dat}{t:Bool×Dat}(k:(Z[i]?).bind ownOf=some j)(h:a Z=some (ds,Z1))(l:(Z1[i]?).bind ownOf=some t)(m:fn t.2 ds=some (r,d'))(n:Z1.set i (kindAt t.1 d')=Z2):j0 fn i a Z=some (r,Z2):=by
 delta j0;simp_all
theorem ak:fO Z=some ([],Z):=rfl
theorem ae(h:f Z=some (d,Z1))(h':a Z1=some (ds,Z2)):dJ f a Z=some (d::ds,Z2):=by unfold dJ;rw[h];show (a Z1).map _=_;rw[h'];rfl
theorem bL(h:a Z=some (ds,Z1))(h':ds.length<=dk):pW a Z=some (.own (.lst ds),Z1):=by unfold pW;rw[h];exact if_pos h'
theorem fx(h:a Z=some (ds,Z1))(h':ds.length<=dk):rJ a Z=some (.tup ds,Z1):=by unfold rJ;rw[h];exact if_pos h'
theorem n8{n c:Dat}(h:f Z=some (c,Z1))(i:g Z1=some (n,Z2))(j:cu c n=some d):mJ f g Z=some (d,Z2):=by
 delta mJ;grind
theorem bA{i:Nat}{c0 n c:Dat}(j:(Z[i]?).bind iu=some c0)(k:g Z=some (n,Z1))(h:(Z1[i]?).bind iu=some c)(l:cu c n=some d):l6 i g Z=some (d,Z1):=by
 delta l6;simp_all
theorem eG{i n:Nat}{c:Dat}(j:(Z[i]?).bind iu=some c)(h:cD c=some n):pO i Z=some (.int n,Z):=by unfold pO;rw[j];show (cD c).map _=_;rw[h];rfl
theorem wJ(h:e Z=some (r,Z1)):mB e Z=some (.ret r Z1):=by unfold mB;rw[h];rfl
theorem pf{i:Nat}(h:e Z=some (r,Z1))(h':kc i r Z1=some Z2):gS i e Z=some (.next Z2):=by unfold gS;rw[h];show (kc i r Z1).map _=_;rw[h'];rfl
theorem C5{g:GF}(h:f Z=some (d,Z1))(h':g d Z1=some Z2):mZ g f Z=some (.next Z2):=by unfold mZ;rw[h];show (g d Z1).map _=_;rw[h'];rfl
theorem tQ(h:f Z=some (d,Z1)):nN f Z=some (.next Z1):=by unfold nN;rw[h];rfl
theorem gU{i:Type}{F G:DS->Option i}{x:i}(h:F Z=some x):alt F G Z=some x:=by unfold alt;rw[h]
theorem Dv{o1 o2:Dat->Dat->Option Res}{h:DF}{x y z:Dat}(i:f Z=some (x,Z1))(j:g Z1=some (y,Z2))(k:o1 x y=some (.dat (.bl b)))(hh:h Z2=some (z,Z2))(l:o2 y z=some (.dat (.bl b'))):jV o1 o2 f g h Z=some (.bl (b&&b'),Z2):=by
 delta jV;simp[i];rw[j];simp[k];cases b
 ·rfl
 ·simp_all
theorem Hx{o1 o2:Dat->Dat->Option Res}{h:DF}(hh:jV o1 o2 f g h Z=some (.bl b,Z1)):oU o1 o2 f g h Z=some (b,Z1):=by unfold oU;rw[hh];rfl
theorem qQ{C:Int->Int->Bool}{g:Int->Int->Dat}{i j:Int}(h:C i j=true):fU C g (.int i) (.int j)=some (.dat (g i j)):=if_pos h
theorem v_eq{x y:Dat}(h:bH x=true)(h':bH y=true):eX false x y=some (.dat (.bl (dw x y))):=by unfold eX;rw[h,h'];rfl
theorem qm{x y:Dat}(h:bH x=true)(h':bH y=true):eX true x y=some (.dat (.bl (!dw x y))):=by unfold eX;rw[h,h'];rfl
theorem DY{x y:eA}(h:x.length+y.length<=dk):fK (.str x) (.str y)=some (.dat (.str (x++y))):=if_pos h
theorem qZ{x y:List Dat}(h:x.length+y.length<=dk):fK (.lst x) (.lst y)=some (.own (.lst (x++y))):=if_pos h
theorem Ae{C:dR}(h:a Z=some (ds,Z1))(h':ds.length<=dk):ml C a Z=some (.exc C Z1):=by unfold ml;rw[h];exact if_pos h'
theorem xS{i:Type}{F G:DS->Option i}{x:i}(h:F Z=none)(h':G Z=some x):alt F G Z=some x:=by unfold alt;rw[h];exact h'
theorem Gg{fi:IF}{g:GF}(h:fi Z=some (ds,Z1))(h':forLoop g s ds Z1=oo):nA fi g s Z=oo:=by unfold nA;rw[h];exact h'
theorem CU{n:Nat}(h:s (dX n ds)=some (.ret r Z)):kg n s ds=some r:=by unfold kg;rw[h];rfl
theorem vZ{n j:Nat}{c0 i:Dat}(h:s (iJ n j c0 ds)=some (.ret r Z))(h':Z[j]?=some (.io i)):lL n j s c0 ds=some (r,i):=by
 delta lL;simp[h];simp[h']
theorem tR{i:Nat}{l:DF}{m:Bool×Dat}{xs:List Dat}{k:Int}{j:Nat}(h:f Z=some (d,Z1))(n:(Z1[i]?).bind ownOf=some m)(p:l Z1=some (.int k,Z2))(q:(Z2[i]?).bind ownOf=some (b,.lst xs))(t:fJ xs.length k=some j)
 (u:Z2.set i (kindAt b (.lst (xs.set j d)))=Z3):qr i l f Z=some (.next Z3):=by
 delta qr;grind
theorem A2{i j:Int}:eX false (.int i) (.int j)=some (.dat (.bl (decide (i=j)))):=by rw[v_eq lb lb,lR]
theorem x6{i j:eA}(h:r6 i=true)(h':r6 j=true):eX false (.str i) (.str j)=some (.dat (.bl (decide (i=j)))):=by rw[v_eq (ju h) (ju h'),kA]
theorem wI{g:GF}{fc:BF}{fe:DF}(I:Nat->List Dat->DS->Prop):∀(xs:List Dat) (n:Nat) (i:List Dat) (Z:DS),I n i Z->i.length+xs.length<=dk ->
  (∀(k:Nat) (x:Dat),xs[k]?=some x->∀i Z,I (n+k) i Z->∃Z1 b Z2,g x Z=some Z1/\fc Z1=some (b,Z2)/\((b=false/\noOwn Z2=true/\I (n+k+1) i Z2)\/∃d Z3,b=true/\fe Z2=some (d,Z3)/\noOwn Z3=true/\I (n+k+1) (i++[d]) Z3)) ->
  ∃l m,I (n+xs.length) l m/\compLoop g fc fe xs i Z=some (l,m)
 | [],n,i,Z,h,_,_=>⟨i,Z,h,rfl⟩
 | x::xs,n,i,Z,h,B,k=>by
  have v:∀(j:Nat) (y:Dat),xs[j]?=some y->∀i Z,I (n+1+j) i Z->∃Z1 b Z2,g y Z=some Z1/\fc Z1=some (b,Z2)/\((b=false/\noOwn Z2=true/\I (n+1+j+1) i Z2)\/∃d Z3,b=true/\fe Z2=some (d,Z3)/\noOwn Z3=true/\I (n+1+j+1) (i++[d]) Z3):=fun j y C i Z D=>by
   have:=k (j+1) y C i Z (by rw[show n+(j+1)=n+1+j from by lia];exact D)
   rw[show n+(j+1)+1=n+1+j+1 from by lia] at this
   exact this
  have w:n+(x::xs).length=n+1+xs.length:=by simp only[f'];lia
  obtain⟨Z1,b,Z2,z,A,E⟩:=k 0 x rfl i Z h
  rcases E with⟨rfl,p,q⟩|⟨d,Z3,rfl,F,p,q⟩
  ·obtain⟨l,m,t,u⟩:=wI I xs (n+1) i Z2 q (by omega) v
   refine⟨l,m,w ▸ t,?_⟩;show (g x Z).bind _=_;simp[z];rw[A];show (if noOwn Z2=true then compLoop g fc fe xs i Z2 else none)=_
   rw[if_pos p];exact u
  ·obtain⟨l,m,t,u⟩:=wI I xs (n+1) (i++[d]) Z3 q (by rw[eH];simp;omega) v
   refine⟨l,m,w ▸ t,?_⟩;show (g x Z).bind _=_;simp[z];rw[A];show (fe Z2).bind _=_;rw[F];show (if i.length<dk/\noOwn Z3=true then _ else none)=_
   rw[if_pos ⟨by omega,p⟩]
   exact u
end
structure vj (K:fj) (mg:eA->Option bR) (x:eA) (C:dR):Prop where
 at_:mg x=some (.ref C)
 is:∃(B newId initId:String) (bmB:List bR),Zn B newId initId bmB/\X6 K C bmB newId=true
section
variable{X:Cx}{pos:u3}{e:gi}
theorem Qy{x:eA}{C:dR}{b:List gi}{fa:AF}{g a:u3}(h:vj X.K X.mg x C)(c:X.A.handled=none)(j:Gl X x)(k:DA X (e::b) fa)
 (d:bb x)(l:bp X e b)(f:(KX a (lq b X.env)).any (·.1)=false) :
  bU X (.Raise (some (.Call (.Name x g) (e::b) [] a)) none pos) (ml C fa):=by
 obtain⟨B,n,i,bm,F,m⟩:=h.is;exact K3 F m c j h.at_ k d l f
theorem Qi{n:Nat}{s:SF}{ds:List Dat}{r:Res}{Z:DS}(h:s (dX n ds)=some (.ret r Z)):hZ n s ds=some (.ok r):=by unfold hZ;rw[h];rfl
theorem Ke{n:Nat}{s:SF}{ds:List Dat}{C:dR}{Z:DS}(h:s (dX n ds)=some (.exc C Z)):hZ n s ds=some (.exc C):=by unfold hZ;rw[h];rfl
theorem Lz{n:Nat}{s:SF}{ds:List Dat}{Z:DS}(h:s (dX n ds)=some (.next Z)):hZ n s ds=some (.ok (.dat .aB)):=by unfold hZ;rw[h];rfl
end
def WS(s:SF)(Z:DS)(Q:Out->Prop):Prop:=∃o,s Z=some o/\Q o
def AQ(g:SF)(Q:Out->Prop):Out->Prop
 | .next Z=>WS g Z Q
 | .ret r Z=>Q (.ret r Z)
 | .brk Z=>Q (.brk Z)
 | .cont Z=>Q (.cont Z)
 | .exc C Z=>Q (.exc C Z)
def WB(c:BF)(Z:DS)(Q:Bool->DS->Prop):Prop:=∃b Z1,c Z=some (b,Z1)/\Q b Z1
section
variable{f g:DF}{e:EF}{c c':BF}{s s':SF}{a:AF}{Z Z1 Z2 Z3:DS}{d d':Dat}{ds:List Dat}{r:Res}{b b':Bool}{Q:Out->Prop}{P:iN}{w:nE}{K:fj}{mg:eA->Option bR}{base:nS}
theorem WS.mono{i:Out->Prop}(h:WS s Z Q)(k:∀o,Q o->i o):WS s Z i:=⟨h.choose,h.choose_spec.1,k _ h.choose_spec.2⟩
theorem aj{g:SF}(h:WS s Z (AQ g Q)):WS (i8 s g) Z Q:=by
 obtain⟨o,e,q⟩:=h;cases o with
 | next Z1 =>
  obtain⟨o2,i,j⟩:=q;exact⟨o2,by rw[v_after,e];exact i,j⟩
 | ret r Z1=>exact⟨_,by rw[v_after,e];rfl,q⟩
 | brk Z1=>exact⟨_,by rw[v_after,e];rfl,q⟩
 | cont Z1=>exact⟨_,by rw[v_after,e];rfl,q⟩
 | exc C Z1=>exact⟨_,by rw[v_after,e];rfl,q⟩
theorem bC(q:Q (.next Z)):WS qD Z Q:=⟨_,rfl,q⟩
theorem aq{g:SF}(h:WS g Z Q):AQ g Q (.next Z):=h
theorem fL{g:SF}(h:Q (.ret r Z)):AQ g Q (.ret r Z):=h
theorem aH{i:Nat}(h:e Z=some (r,Z1))(h':kc i r Z1=some Z2)(q:Q (.next Z2)):WS (gS i e) Z Q:=⟨_,pf h h',q⟩
theorem Ek{g:GF}(h:f Z=some (d,Z1))(h':g d Z1=some Z2)(q:Q (.next Z2)):WS (mZ g f) Z Q:=⟨_,C5 h h',q⟩
theorem cg(h:e Z=some (r,Z1))(q:Q (.ret r Z1)):WS (mB e) Z Q:=⟨_,wJ h,q⟩
theorem mY(h:f Z=some (d,Z1))(q:Q (.next Z1)):WS (nN f) Z Q:=⟨_,tQ h,q⟩
theorem vU(h:WB c Z fun b Z1=>(b=true->WS s Z1 Q)/\(b=false->WS s' Z1 Q)):WS (j3 c s s') Z Q:=by
 obtain⟨b,Z1,e,j,k⟩:=h;cases b
 ·obtain⟨o,i,q⟩:=k rfl;exact⟨o,uj e i,q⟩
 ·obtain⟨o,i,q⟩:=j rfl;exact⟨o,uj e i,q⟩
theorem gy(h:c Z=some (b,Z1))(t:b=true->WS s Z1 Q)(n:b=false->WS s' Z1 Q):WS (j3 c s s') Z Q:=vU ⟨b,Z1,h,t,n⟩
theorem rT{Q:Bool->DS->Prop}(h:c Z=some (b,Z1))(q:Q b Z1):WB c Z Q:=⟨b,Z1,h,q⟩
theorem BI{Q:Bool->DS->Prop}(h:WB c Z fun b Z1=>(b=true->WB c' Z1 Q)/\(b=false->Q false Z1)):WB (lN c c') Z Q:=by
 obtain⟨b,Z1,e,i,j⟩:=h;cases b
 ·exact⟨false,Z1,v_and e rfl,j rfl⟩
 ·obtain⟨b',Z2,k,q⟩:=i rfl;exact⟨b',Z2,v_and e k,q⟩
theorem rb{C:dR}(h:a Z=some (ds,Z1))(h':ds.length<=dk)(q:Q (.exc C Z1)):WS (ml C a) Z Q:=⟨_,Ae h h',q⟩
def OV(Q:Out->Prop):Out->Prop
 | .exc _ _=>False
 | .next Z=>Q (.next Z)
 | .ret r Z=>Q (.ret r Z)
 | .brk Z=>Q (.brk Z)
 | .cont Z=>Q (.cont Z)
theorem DZ(h:WS s Z (OV Q)):WS (sE s) Z Q:=by
 obtain⟨o,e,q⟩:=h;dsimp only[WS,sE];rw[e];cases o with
 | exc C Z1=>exact q.elim
 | _=>exact⟨_,rfl,q⟩
def vx(N:DS->Prop)(Q:Out->Prop):Out->Prop
 | .next Z=>N Z
 | .cont Z=>N Z
 | .brk Z=>Q (.next Z)
 | .ret r Z=>Q (.ret r Z)
 | .exc _ _=>False
theorem Dd{g:GF}{fb:SF}{Q:Out->Prop}(I:Nat->DS->Prop):∀(xs:List Dat) (n:Nat) (Z:DS),I n Z->(∀(k:Nat) (x:Dat),xs[k]?=some x->∀Z,I (n+k) Z->∃Z1,g x Z=some Z1/\WS fb Z1 (vx (I (n+k+1)) Q)) ->
  (∀Z,I (n+xs.length) Z->Q (.next Z))->WS (forLoop g fb xs) Z Q
 | [],n,Z,h,_,i=>⟨_,rfl,i Z h⟩
 | x::xs,n,Z,h,k,i=>by
  obtain⟨Z1,m,o,p,q⟩:=k 0 x rfl Z h;have go:∀Z2,I (n+0+1) Z2->WS (forLoop g fb xs) Z2 Q:=fun Z2 t=>Dd I xs (n+1) Z2 t (fun j y u Z v=>by
   have:=k (j+1) y u Z (by rw[show n+(j+1)=n+1+j from by lia];exact v)
   rw[show n+(j+1)+1=n+1+j+1 from by lia] at this
   exact this) (fun Z hd=>i Z (by simp only[f',show n+(xs.length+1)=n+1+xs.length from by lia];exact hd))
  have hh:∀l,fb Z1=some l->forLoop g fb (x::xs) Z=match l with
   | .next Z2=>forLoop g fb xs Z2
   | .cont Z2=>forLoop g fb xs Z2
   | .brk Z2=>some (.next Z2)
   | .ret r Z2=>some (.ret r Z2)
   | .exc _ _=>none:=fun l z=>by
   show (g x Z).bind _=_;rw[m];show (fb Z1).bind _=_;rw[z];cases l<;>rfl
  have hh:=hh o p;delta WS;cases o with
  | next Z2=>rw[hh];exact go Z2 q
  | cont Z2=>rw[hh];exact go Z2 q
  | brk Z2=>rw[hh];exact⟨_,rfl,q⟩
  | ret r Z2=>rw[hh];exact⟨_,rfl,q⟩
  | exc C Z2=>exact q.elim
theorem gb{fi:IF}{g:GF}{fb:SF}(I:Nat->DS->Prop)(h:fi Z=some (ds,Z1))(l:I 0 Z1)(st:∀(k:Nat) (x:Dat),ds[k]?=some x->∀Z,I k Z->∃Z1,g x Z=some Z1/\WS fb Z1 (vx (I (k+1)) Q))
 (i:∀Z,I ds.length Z->Q (.next Z)):WS (nA fi g fb) Z Q:=by
 have:=Dd I ds 0 Z1 l (fun k x m Z j=>by
  obtain⟨Z1,n,w⟩:=st k x m Z (by rw[z5] at j;exact j)
  exact⟨Z1,n,by rw[z5];exact w⟩) (fun Z hd=>i Z (by rw[z5] at hd;exact hd))
 obtain⟨o,e,q⟩:=this;exact⟨o,Gg h e,q⟩
theorem Rf{n:Nat}{P:Res->Prop}(h:WS s (dX n ds) fun o=>∃r Z,o=.ret r Z/\P r):∃r,kg n s ds=some r/\P r:=by
 obtain⟨o,e,r,Z,rfl,p⟩:=h;exact⟨r,CU e,p⟩
theorem GA{n j:Nat}{c0:Dat}{P:Res->Dat->Prop}(h:WS s (iJ n j c0 ds) fun o=>∃r Z i,o=.ret r Z/\Z[j]?=some (.io i)/\P r i):∃r i,lL n j s c0 ds=some (r,i)/\P r i:=by
 obtain⟨o,e,r,Z,i,rfl,h,p⟩:=h;exact⟨r,i,vZ e h,p⟩
theorem G6{n:Nat}{P:iF->Prop}(h:WS s (dX n ds) fun o=>(∃r Z,o=.ret r Z/\P (.ok r))\/(∃C Z,o=.exc C Z/\P (.exc C))\/∃Z,o=.next Z/\P (.ok (.dat .aB))):∃r,hZ n s ds=some r/\P r:=by
 obtain⟨o,e,h⟩:=h
 rcases h with⟨r,Z,rfl,p⟩|⟨C,Z,rfl,p⟩|⟨Z,rfl,p⟩
 ·exact⟨_,Qi e,p⟩
 ·exact⟨_,Ke e,p⟩
 ·exact⟨_,Lz e,p⟩
theorem Co{caps:List (Option Nat)}{fi:IF}{g:GF}{fc:BF}{fe:DF}{out:List Dat}{Ze:DS}(h:fi Z=some (ds,Z1))(i:a9 none caps Z1=Z2)(hl:compLoop g fc fe ds [] (bX caps Z2)=some (out,Ze)):dm caps none fi g fc fe Z=some (.own (.lst out),Z2):=by
 dsimp only[dm];simp_all
theorem Jx{caps:List (Option Nat)}{k j:Nat}{fi:IF}{g:GF}{fc:BF}{fe:DF}{out:List Dat}{Ze:DS}{c0 i:Dat}(h:fi Z=some (ds,Z1))(l:a9 (some (k,j)) caps Z1=Z2)(m:caps[k]?=some (some j))(n:Z2[j]?=some (.io c0))
 (hl:compLoop g fc fe ds [] ((bX caps Z2).set k (.io c0))=some (out,Ze))(o:Ze[k]?=some (.io i))(p:Z2.set j (.io i)=Z3):dm caps (some (k,j)) fi g fc fe Z=some (.own (.lst out),Z3):=by
 dsimp only[dm];simp_all
theorem zw{g:GF}{fc:BF}{fe:DF}{n:DS}(put:Dat->DS)(keep:Dat->Bool)(val:Dat->Dat):∀(xs:List Dat) (h:List Dat) (Z:DS),h.length+xs.length<=dk ->
  (∀x∈xs,∀Z,(Z=n\/∃y,Z=put y)->g x Z=some (put x))->(∀x∈xs,fc (put x)=some (keep x,put x))->(∀x∈xs,keep x=true->fe (put x)=some (val x,put x))->(∀x∈xs,noOwn (put x)=true)->(Z=n\/∃y,Z=put y) ->
  ∃j,compLoop g fc fe xs h Z=some (h++(xs.filter keep).map val,j)
 | [],h,Z,_,_,_,_,_,_=>⟨Z,by simp[compLoop]⟩
 | x::xs,h,Z,B,o,p,q,t,hd=>by
  simp at B;have u:=o x (fv ..) Z hd;have v:=p x (fv ..);have z:=t x (fv ..);have k:=fun l (A:l.length+xs.length<=dk)=>zw put keep val xs l (put x) A (fun y i=>o y (fm _ i)) (fun y i=>p y (fm _ i)) (fun y i=>q y (fm _ i)) (fun y i=>t y (fm _ i)) (.inr ⟨x,rfl⟩)
  cases m:keep x with
  | false =>
   obtain⟨j,e⟩:=k h (by omega)
   refine⟨j,?_⟩;show (g x Z).bind _=_;rw[u];show (fc (put x)).bind _=_;rw[v,m];show (if noOwn (put x)=true then compLoop g fc fe xs h (put x) else none)=_
   rw[if_pos z,e,P',m];simp
  | true =>
   obtain⟨j,e⟩:=k (h++[val x]) (by rw[eH];simp;omega)
   refine⟨j,?_⟩;show (g x Z).bind _=_;rw[u];show (fc (put x)).bind _=_;rw[v,m];show (fe (put x)).bind _=_;rw[q x (fv ..) m];show (if h.length<dk/\noOwn (put x)=true then _ else none)=_
   rw[if_pos ⟨by omega,z⟩,e,P',m]
   simp
def WE(e:EF)(Z:DS)(Q:Res->DS->Prop):Prop:=∃r Z1,e Z=some (r,Z1)/\Q r Z1
def WD(f:DF)(Z:DS)(Q:Dat->DS->Prop):Prop:=∃d Z1,f Z=some (d,Z1)/\Q d Z1
def WA(a:AF)(Z:DS)(Q:List Dat->DS->Prop):Prop:=∃ds Z1,a Z=some (ds,Z1)/\Q ds Z1
theorem Nq{Q:Res->DS->Prop}(h:e Z=some (r,Z1))(q:Q r Z1):WE e Z Q:=⟨r,Z1,h,q⟩
theorem FK{Q:Dat->DS->Prop}(h:f Z=some (d,Z1))(q:Q d Z1):WD f Z Q:=⟨d,Z1,h,q⟩
theorem Q5{Q:Dat->DS->Prop}(h:WE e Z fun r Z1=>Q r.val Z1):WD (dG e) Z Q:=by
 obtain⟨r,Z1,i,q⟩:=h;exact⟨_,Z1,ah i rfl,q⟩
theorem PD{Q:List Dat->DS->Prop}(q:Q [] Z):WA fO Z Q:=⟨_,_,rfl,q⟩
theorem Hb{Q:List Dat->DS->Prop}(h:WD f Z fun d Z1=>WA a Z1 fun ds Z2=>Q (d::ds) Z2):WA (dJ f a) Z Q:=by
 obtain⟨d,Z1,i,ds,Z2,j,q⟩:=h;exact⟨_,Z2,ae i j,q⟩
theorem Rb{fn:bc}{Q:Res->DS->Prop}(h:WA a Z fun ds Z1=>∃r,fn ds=some r/\Q r Z1):WE (bY fn a) Z Q:=by
 obtain⟨ds,Z1,i,r,j,q⟩:=h;exact⟨r,Z1,aZ i j,q⟩
theorem OT{sep:eA}{ys:List eA}(h:f Z=some (.lst ds,Z1))(i:dv ds=some ys)(j:sep.length<=16/\(ys.map (·.length)).sum+ys.length<=1048576):p5 sep f Z=some (.str (Wf sep ys),Z1):=by
 delta p5;simp[h];simp only[i];exact if_pos j
theorem EH{i:Nat}{Q:Out->Prop}(h:WE e Z fun r Z1=>∃Z2,kc i r Z1=some Z2/\Q (.next Z2)):WS (gS i e) Z Q:=by
 obtain⟨r,Z1,j,Z2,k,q⟩:=h;exact⟨_,pf j k,q⟩
theorem LN{Q:Out->Prop}(h:WE e Z fun r Z1=>Q (.ret r Z1)):WS (mB e) Z Q:=by
 obtain⟨r,Z1,i,q⟩:=h;exact⟨_,wJ i,q⟩
theorem FO{caps:List (Option Nat)}{kb j:Nat}{fi:IF}{g:GF}{fc:BF}{fe:DF}{xs:List Dat}{c0:Dat}{Q:Res->DS->Prop}(I:Nat->List Dat->DS->Prop)(p:fi Z=some (xs,Z1))(t:a9 (some (kb,j)) caps Z1=Z2)(u:caps[kb]?=some (some j))(v:Z2[j]?=some (.io c0))(y:I 0 [] ((bX caps Z2).set kb (.io c0)))(z:xs.length<=dk)
 (st:∀(k:Nat) (x:Dat),xs[k]?=some x->∀h Z,I k h Z->∃Z1,g x Z=some Z1/\WB fc Z1 fun b Z2=>(b=false->noOwn Z2=true/\I (k+1) h Z2)/\(b=true->WD fe Z2 fun d Z3=>noOwn Z3=true/\I (k+1) (h++[d]) Z3))
 (m:∀h Z,I xs.length h Z->∃l,Z[kb]?=some (.io l)/\Q (.own (.lst h)) (Z2.set j (.io l))):WE (dm caps (some (kb,j)) fi g fc fe) Z Q:=by
 obtain⟨h,Ze,n,A⟩:=wI I xs 0 [] _ y (by simpa using z) (fun k x B h Z i=>by
  rw[z5] at i ⊢;obtain⟨Z1,C,b,Z2,D,o,E⟩:=st k x B h Z i;refine⟨Z1,b,Z2,C,D,?_⟩;cases b
  ·exact .inl ⟨rfl,(o rfl).1,(o rfl).2⟩
  ·obtain⟨d,Z3,F,G,H⟩:=E rfl;exact .inr ⟨d,Z3,rfl,F,G,H⟩)
 rw[z5] at n;obtain⟨l,i,q⟩:=m h Ze n;exact⟨_,_,Jx p t u v A i rfl,q⟩
noncomputable def fT{h i:Type}(n:Nat)(f:List h->Option i):List h->Option i:=fun ds=>if ds.length=n then f ds else none
theorem xw{i j:Type}{n:Nat}{f:List i->Option j}{ds:List i}(h:ds.length=n):fT n f ds=f ds:=if_pos h
theorem df{x i:eA}{st:Uz}{f:dR}{o:hQ}{N l:List eA}{k n:Nat}{fb:SF}{Spec:bc->Prop}(F:bf K x i st f o)(S:bw N l (aJ st))(p:l.length=n)
 (q:∀(j:bR) (A:n6) (outer:List Xo) (s:dr) (H:Hp) (E:XK),Room k (A.deeper (Vu i (aJ st) s.heap.objs.size f j))->fG (dA bh P w K mg base N i (aJ st) f j A outer s H E).gY (fZ st) fb)
 (m:Spec (fT n (kg N.length fb))):∃fn,aO P w K mg base bh (k+1) f o l (aY K fn)/\Spec fn:=by
 refine⟨_,Me F S ?_ q ?_,m⟩
 ·intro ds r h;unfold fT at h;split at h
  ·rename_i e;simp only[e,p]
  ·exact nO h
 ·intro ds r h;unfold fT at h;split at h
  ·exact h
  ·exact nO h
theorem l9{x i:eA}{st:Uz}{f:dR}{p:hQ}{N m:List eA}{k n j:Nat}{fb:SF}{Spec:dI->Prop}(F:bf K x i st f p)(S:bw N m (aJ st))(q:m.length=n+1)
 (t:∀(l:bR) (A:n6) (outer:List Xo) (s:dr) (H:Hp) (E:XK),Room k (A.deeper (Vu i (aJ st) s.heap.objs.size f l))->fG (dA bh P w K mg base N i (aJ st) f l A outer s H E).gY (fZ st) fb)
 (o:Spec (fun c=>fT n (lL N.length j fb c))):∃fn,aO P w K mg base bh (k+1) f p m (cO K j fn)/\Spec fn:=by
 refine⟨_,Eg F S ?_ t ?_,o⟩
 ·intro c ds r h;unfold fT at h;split at h
  ·rename_i e;rw[e,q]
  ·exact nO h
 ·intro c ds r h;unfold fT at h;split at h
  ·exact h
  ·exact nO h
theorem zI{x i:eA}{st:Uz}{f:dR}{o:hQ}{N l:List eA}{k n:Nat}{fb:SF}{Spec:gh->Prop}(F:bf K x i st f o)(S:bw N l (aJ st))(p:l.length=n)
 (q:∀(j:bR) (A:n6) (outer:List Xo) (s:dr) (H:Hp) (E:XK),Room k (A.deeper (Vu i (aJ st) s.heap.objs.size f j))->fG (dA (dF P w) P w K mg base N i (aJ st) f j A outer s H E) (fZ st) fb)
 (m:Spec (fT n (hZ N.length fb))):∃fn,aO P w K mg base (dF P w) (k+1) f o l (iO K fn)/\Spec fn:=by
 refine⟨_,QY F S ?_ q ?_,m⟩
 ·intro ds r h;unfold fT at h;split at h
  ·rename_i e;simp only[e,p]
  ·exact nO h
 ·intro ds r h;unfold fT at h;split at h
  ·exact h
  ·exact nO h
theorem wQ{n m:Nat}{s:SF}{ds:List Dat}{P:Res->Prop}(i:ds.length=m)(h:WS s (dX n ds) fun o=>∃r Z,o=.ret r Z/\P r):∃r,fT m (kg n s) ds=some r/\P r:=by
 rw[xw i];exact Rf h
theorem lP{n m j:Nat}{s:SF}{c0:Dat}{ds:List Dat}{P:Res->Dat->Prop}(k:ds.length=m)(h:WS s (iJ n j c0 ds) fun o=>∃r Z i,o=.ret r Z/\Z[j]?=some (.io i)/\P r i):∃r i,fT m (lL n j s c0) ds=some (r,i)/\P r i:=by
 rw[xw k];exact GA h
theorem yP{n m:Nat}{s:SF}{ds:List Dat}{P:iF->Prop}(i:ds.length=m)(h:WS s (dX n ds) fun o=>(∃r Z,o=.ret r Z/\P (.ok r))\/(∃C Z,o=.exc C Z/\P (.exc C))\/∃Z,o=.next Z/\P (.ok (.dat .aB))):∃r,fT m (hZ n s) ds=some r/\P r:=by
 rw[xw i];exact G6 h
theorem dS{n m:Nat}{s:SF}{ds:List Dat}{r:Res}(j:ds.length=m)(h:WS s (dX n ds) fun o=>∃Z,o=.ret r Z):fT m (kg n s) ds=some r:=by
 obtain⟨i,e,z⟩:=wQ j (h.mono fun o ⟨Z,e⟩=>⟨r,Z,e,rfl⟩)
 rw[e,z]
theorem QG{n m:Nat}{s:SF}{ds:List Dat}{a:iF}(j:ds.length=m)(h:WS s (dX n ds) fun o=>(∃r Z,o=.ret r Z/\a=.ok r)\/(∃C Z,o=.exc C Z/\a=.exc C)):fT m (hZ n s) ds=some a:=by
 obtain⟨i,e,z⟩:=yP (P:=fun i=>i=a) j (h.mono fun o h=>by
  rcases h with⟨r,Z,e,rfl⟩|⟨C,Z,e,rfl⟩
  ·exact .inl ⟨r,Z,e,rfl⟩
  ·exact .inr (.inl ⟨C,Z,e,rfl⟩))
 rw[e,z]
theorem Od{caps:List (Option Nat)}{fi:IF}{g:GF}{fc:BF}{fe:DF}{xs:List Dat}(put:Dat->DS)(keep:Dat->Bool)(val:Dat->Dat)(h:fi Z=some (xs,Z1))(i:a9 none caps Z1=Z2)(j:xs.length<=dk)
 (k:∀x∈xs,∀Z,(Z=bX caps Z2\/∃y,Z=put y)->g x Z=some (put x))(l:∀x∈xs,fc (put x)=some (keep x,put x))(m:∀x∈xs,keep x=true->fe (put x)=some (val x,put x))(n:∀x∈xs,noOwn (put x)=true) :
  dm caps none fi g fc fe Z=some (.own (.lst ((xs.filter keep).map val)),Z2):=by
 obtain⟨Z',e⟩:=zw put keep val xs [] (bX caps Z2) (by simpa using j) k l m n (.inl rfl)
 exact Co h i e
theorem Jj{x:eA}(h:f Z=some (.str x,Z1))(i:x.cps.all (·<128)=true):jN f Z=some (x.cps.toList.map fun c=>.str ⟨#[c]⟩,Z1):=by
 delta jN;rw[h];exact if_pos i
theorem QE{x:eA}(h:f Z=some (.str x,Z1))(i:x.cps.all (·<128)=true):alt (jg f) (jN f) Z=some (x.cps.toList.map fun c=>.str ⟨#[c]⟩,Z1):=by
 refine xS ?_ (Jj h i);delta jg;rw[h];rfl
theorem dy(h:f Z=some (.lst ds,Z1)):alt (jg f) (jN f) Z=some (ds,Z1):=by
 refine gU ?_;delta jg;rw[h];rfl
theorem tH{h:Type}(f:h->Bool):∀cs:List h,jk (cs.map fun c=>.bl (f c))=some (cs.map f)
 | []=>rfl
 | c::cs=>by
  simp only[hY,jk,tH f cs];rfl
end
theorem fy{b a:Bool}{Z:DS}(h:b=a):∃c,Out.ret (.dat (.bl b)) Z=.ret (.dat (.bl a)) c:=⟨Z,by rw[h]⟩
theorem pj{a:AF}{Z Z1:DS}{n:Int}(h:a Z=some ([.int n],Z1))(b:-(2 ^ 62)<=n/\n<2 ^ 62):nI a Z=some (dn 0 n,Z1):=by
 delta nI;rw[h];exact if_pos b
structure Ob where
 l:Int
 b:Int
 r:Int
 t:Int
deriving DecidableEq
def Ob.ok(x:Ob):Prop:=x.l<x.r/\x.b<x.t
def Ob.eY(x:Ob):Int:=(x.r-x.l)*(x.t-x.b)
def Apart(x y:Ob):Prop:=x.r<=y.l\/y.r<=x.l\/x.t<=y.b\/y.t<=x.b
noncomputable def nM(i j:Int):Int:=if j<i then j else i
noncomputable def imax(i j:Int):Int:=if j>i then j else i
theorem Apart.symm{x y:Ob}(h:Apart x y):Apart y x:=by unfold Apart at *;lia
section
variable{α:Type}[DecidableEq α]
noncomputable abbrev GD(α:Type):=List (α×Ob)
end
noncomputable def sm:Nat->(Nat->Nat)->Nat
 | 0,_=>0
 | n+1,f=>sm n f+f n
theorem we(f g:Nat->Nat):∀n,sm n (fun i=>f i+g i)=sm n f+sm n g
 | 0=>rfl
 | n+1=>by
  show sm n (fun i=>f i+g i)+(f n+g n)=_
  rw[we f g n];show _=(sm n f+f n)+(sm n g+g n)
  lia
theorem xo{f g:Nat->Nat}:∀{n},(∀i,i<n->f i<=g i)->sm n f<=sm n g
 | 0,_=>eB _
 | n+1,h=>Nat.add_le_add (xo fun i hi=>h i (by lia)) (h n (by lia))
theorem xU{f g:Nat->Nat}:∀{n},(∀i,i<n->f i<=g i)->∀k,k<n->f k<g k->sm n f<sm n g
 | 0,_,k,a,_=>by lia
 | n+1,h,k,a,hl=>by
  show sm n f+f n<sm n g+g n
  by_cases e:k=n
  ·subst e;have:=xo (n:=k) fun i b=>h i (by lia)
   lia
  ·have:=xU (n:=n) (fun i b=>h i (by lia)) k (by lia) hl
   have:=h n (by lia)
   lia
theorem rK(c:Nat):∀n,sm n (fun _=>c)=n*c
 | 0=>by simp[sm]
 | n+1=>by
  show sm n _+c=_;simp only[rK c n,aaM]
theorem zG:∀n,sm n (fun _=>0)=0:=fun n=>by rw[rK];simp
theorem Bi(a b c:Nat)(h:a<=b):∀n,b<=n->sm n (fun i=>if a<=i/\i<b then c else 0)=(b-a)*c:=by
 have g:∀n,n<=a->sm n (fun i=>if a<=i/\i<b then c else 0)=0:=fun n=>by
  induction n with
  | zero=>intro _;rfl
  | succ n d =>
   intro j;show sm n _+(if a<=n/\n<b then c else 0)=0
   rw[d (by omega),if_neg (by omega)]
 have f:∀n,a<=n->n<=b->sm n (fun i=>if a<=i/\i<b then c else 0)=(n-a)*c:=fun n=>by
  induction n with
  | zero =>
   intro k _;have:a=0:=by lia
   simp[sm]
  | succ n d =>
   intro k h2;show sm n _+(if a<=n/\n<b then c else 0)=_
   by_cases e:a=n+1
   ·rw[g n (by omega),if_neg (by omega),e];simp
   ·rw[d (by lia) (by lia),if_pos (by lia),show n+1-a=(n-a)+1 by lia,aaM]
 intro n;induction n with
 | zero =>
  intro j;rw[f 0 (by lia) (by lia)]
  have:b=0:=by lia
  rw[this]
 | succ n d =>
  intro j
  by_cases e:b=n+1
  ·rw[f (n+1) (by lia) (by lia),e]
  ·show sm n _+(if a<=n/\n<b then c else 0)=_
   rw[d (by lia),if_neg (by lia),Nat.add_zero]
def jd(o:Ob)(x y:Nat):Bool:=decide (o.l<=(x:Int))&&decide ((x:Int)<o.r)&&decide (o.b<=(y:Int))&&decide ((y:Int)<o.t)
theorem nq{o:Ob}{x y:Nat}:jd o x y=true ↔ o.l<=(x:Int)/\(x:Int)<o.r/\o.b<=(y:Int)/\(y:Int)<o.t:=by
 delta jd;grind
def h9(os:List Ob)(x y:Nat):Nat:=os.countP fun o=>jd o x y
def gq(W H:Nat)(f:Nat->Nat->Nat):Nat:=sm W fun x=>sm H fun y=>f x y
theorem JD(W H:Nat)(f g:Nat->Nat->Nat):gq W H (fun x y=>f x y+g x y)=gq W H f+gq W H g:=by
 delta gq;rw[<-we];congr 1;funext x;exact we _ _ H
theorem M9{W H:Nat}{o:Ob}(h1:0<=o.l)(h2:o.l<o.r)(h3:o.r<=W)(h4:0<=o.b)(h5:o.b<o.t)(h6:o.t<=H):(gq W H (fun x y=>if jd o x y=true then 1 else 0):Int)=o.eY:=by
 have e:∀x:Nat,sm H (fun y=>if jd o x y=true then 1 else 0)=if o.l.toNat<=x/\x<o.r.toNat then o.t.toNat-o.b.toNat else 0:=fun x=>by
  by_cases a:o.l.toNat<=x/\x<o.r.toNat
  ·rw[if_pos a];have c:(fun y=>if jd o x y=true then 1 else 0)=fun y=>if o.b.toNat<=y/\y<o.t.toNat then 1 else 0:=by
    funext y
    by_cases d:o.b.toNat<=y/\y<o.t.toNat
    ·rw[if_pos d,if_pos (nq.mpr (by lia))]
    ·rw[if_neg d,if_neg (fun z=>d (by have:=nq.mp z;omega))]
   rw[c,Bi _ _ _ (by lia) H (by lia),YW]
  ·rw[if_neg a];have c:(fun y=>if jd o x y=true then 1 else 0)=fun _=>0:=by
    funext y;rw[if_neg (fun z=>a (by have:=nq.mp z;omega))]
   rw[c,zG]
 dsimp only[gq];rw[show (fun x=>sm H (fun y=>if jd o x y=true then 1 else 0))=fun x=>if o.l.toNat<=x/\x<o.r.toNat then o.t.toNat-o.b.toNat else 0 from funext e,Bi _ _ _ (by lia) W (by lia)]
 simp;congr 1<;>lia
structure Within (W H:Nat) (o:Ob):Prop where
 l:0<=o.l
 w:o.l<o.r
 r:o.r<=W
 b:0<=o.b
 h:o.b<o.t
 t:o.t<=H
theorem DV{W H:Nat}:∀{os:List Ob},(∀o∈os,Within W H o)->(gq W H (h9 os):Int)=(os.map Ob.eY).sum
 | [],_=>by
  have:h9 []=fun _ _=>0:=rfl
  delta gq;rw[this];simp[zG]
 | o::os,h=>by
  have e:h9 (o::os)=fun x y=>(if jd o x y=true then 1 else 0)+h9 os x y:=by
   funext x y;delta h9;simp[nk]
   lia
  have ho:=h o (by simp)
  rw[e,JD,Int.natCast_add,M9 ho.l ho.w ho.r ho.b ho.h ho.t,DV fun p a=>h p (by simp[a])]
  simp
theorem D4{os:List Ob}(ap:os.Pairwise Apart)(x y:Nat):h9 os x y<=1:=by
 delta h9;induction os with
 | nil=>simp
 | cons o os b =>
  rw[tu] at ap;rw[nk]
  by_cases h:jd o x y=true
  ·rw[if_pos h];have:os.countP (fun o=>jd o x y)=0:=by
    rw[rk];intro p c d;have a:=ap.1 p c;have:=nq.mp h;have:=nq.mp d;unfold Apart at a;omega
   lia
  ·rw[if_neg h];exact b ap.2
theorem filled{W H:Nat}{os:List Ob}(a:∀o∈os,Within W H o)(ap:os.Pairwise Apart)(ar:(os.map Ob.eY).sum=(W:Int)*H){x y:Int}(hx:0<=x)(hx':x<W)(hy:0<=y)(hy':y<H) :
  ∃o∈os,o.l<=x/\x<o.r/\o.b<=y/\y<o.t:=by
 refine VG fun no=>?_
 have c:h9 os x.toNat y.toNat=0:=by
  delta h9;rw[rk];intro p d e;have:=nq.mp e;exact no ⟨p,d,by omega⟩
 have g:=DV a;have lt:gq W H (h9 os)<gq W H (fun _ _=>1):=by
  refine xU (fun i _=>xo fun j _=>D4 ap i j) x.toNat (by omega) (xU (fun j _=>D4 ap _ j) y.toNat (by omega) ?_)
  rw[c];exact Nat.one_pos
 have one:gq W H (fun _ _=>1)=W*H:=by
  delta gq;rw[show (fun _:Nat=>sm H fun _=>1)=fun _=>H from funext fun _=>by rw[rK,YW],rK]
 omega
def cI(o:Ob):List (Int×Int):=[(o.l,o.b),(o.l,o.t),(o.r,o.b),(o.r,o.t)]
def cW(os:List Ob):List (Int×Int):=os.flatMap cI
structure Cuts (o:Ob) (os:List Ob):Prop where
 aG:∀x∈os,o.l<=x.l/\x.l<x.r/\x.r<=o.r/\o.b<=x.b/\x.b<x.t/\x.t<=o.t
 ap:os.Pairwise Apart
 ar:(os.map Ob.eY).sum=o.eY
theorem Cuts.one{o:Ob}(h:o.ok):Cuts o [o]:=⟨fun x a=>by
 cases eP.mp a;unfold Ob.ok at h
 lia,U6 _ _,by simp⟩
theorem xT{a:Type}{os:List a}{j:Nat}{x:a}(e:os[j]?=some x):os=os.take j++x::os.drop (j+1):=by
 obtain⟨h,e⟩:=bt.mp e;simp[<-e]
theorem Cuts.L7{o x:Ob}{os d:List Ob}{j:Nat}(h:Cuts o os)(e:os[j]?=some x)(h':Cuts x d):Cuts o (os.take j++d++os.drop (j+1)):=by
 have ho:=xT e;generalize os.take j=A at *;generalize os.drop (j+1)=B at *;subst ho;obtain⟨g,a1,l⟩:=h;obtain⟨i,m,n⟩:=h';rw[Vy,tu] at a1;obtain⟨p,⟨k,q⟩,f⟩:=a1;refine⟨fun y b=>?_,?_,?_⟩
 ·rcases et.mp b with b|b
  ·rcases et.mp b with b|b
   ·exact g y (by simp[b])
   ·have:=g x (by simp)
    have:=i y b;omega
  ·exact g y (by simp[b])
 ·rw[Vy,Vy];refine⟨⟨p,m,fun y b z c=>?_⟩,q,fun y b z c=>?_⟩
  ·have a:=f y b x (by simp)
   have:=i z c;unfold Apart at *;omega
  ·rcases et.mp b with b|b
   ·exact f y b z (by simp[c])
   ·have a:=k z c;have:=i y b;unfold Apart at *;omega
 ·simp only[eW,eW,Xt,Xt,n,<-l,eW,hY,Xt,UG]
  lia
theorem Cuts.up{o:Ob}(h:o.ok){a:Int}(h1:o.b<a)(h2:a<o.t):Cuts o [⟨o.l,o.b,o.r,a⟩,⟨o.l,a,o.r,o.t⟩]:=by
 delta Ob.ok at h;refine⟨fun x c=>?_,?_,?_⟩
 ·simp at c
  rcases c with rfl|rfl<;>dsimp only<;>lia
 ·simp[Apart]
 ·simp[Ob.eY]
  grind
theorem Cuts.on{o:Ob}(h:o.ok){a:Int}(h1:o.l<a)(h2:a<o.r):Cuts o [⟨o.l,o.b,a,o.t⟩,⟨a,o.b,o.r,o.t⟩]:=by
 delta Ob.ok at h;refine⟨fun x c=>?_,?_,?_⟩
 ·simp at c
  rcases c with rfl|rfl<;>dsimp only<;>lia
 ·simp[Apart]
 ·simp[Ob.eY]
  grind
theorem Cuts.E7{l b r t x far y high:Int}(h1:l<x)(h2:x<far)(h3:far<r)(h4:b<y)(h5:y<high)(h6:high<t):Cuts ⟨l,b,r,t⟩ [⟨l,b,far,y⟩,⟨far,b,r,high⟩,⟨x,high,r,t⟩,⟨l,y,x,t⟩,⟨x,y,far,high⟩]:=by
 refine⟨fun x a=>?_,?_,?_⟩
 ·simp at a
  rcases a with rfl|rfl|rfl|rfl|rfl<;>dsimp only<;>lia
 ·simp only[tu,ey,hF,or_false,forall_eq_or_imp,forall_eq,Apart,XX,and_true];refine⟨⟨?_,?_,?_,?_⟩,⟨?_,?_,?_⟩,⟨?_,?_⟩,?_,?_⟩<;>first|omega|simp
 ·simp[Ob.eY]
  grind
theorem Fx{l a:List Int}(p:l.Perm a):l.sum=a.sum:=by
 induction p with
 | nil=>rfl
 | cons x _ b=>simp only[UG,UG,b]
 | swap x y l=>simp only[UG];lia
 | trans _ _ c d=>simp only[c,d]
theorem Cuts.perm{o:Ob}{os b:List Ob}(h:Cuts o os)(p:b.Perm os):Cuts o b :=
 ⟨fun x c=>h.aG x (p.mem_iff.mp c),p.symm.pairwise h.ap fun {x y} a=>by unfold Apart at *;lia,by rw[Fx (p.map Ob.eY)];exact h.ar⟩
def af(o:Ob):Ob:=⟨-o.t,o.l,-o.b,o.r⟩
noncomputable def aa:Nat->Ob->Ob
 | 0,o=>o
 | k+1,o=>af (aa k o)
structure az (bx:Ob) (os:List Ob):Prop where
 aG:∀o∈os,bx.l<=o.l/\o.l<o.r/\o.r<=bx.r/\bx.b<=o.b/\o.b<o.t/\o.t<=bx.t
 ap:∀x∈os,∀y∈os,x=y\/Apart x y
 hit:∀p q,bx.l<=p->p<bx.r->bx.b<=q->q<bx.t->∃o∈os,o.l<=p/\p<o.r/\o.b<=q/\q<o.t
 four:∀x∈os,∀n∈os,∀m∈os,∀z∈os,¬(n.r=x.r/\n.b=x.t/\m.l=x.r/\m.t=x.t/\z.l=x.r/\z.b=x.t)
def wN(a:Ob):Ob:=⟨a.l,a.t,a.r,a.t+1⟩
def wE(a:Ob):Ob:=⟨a.r,a.b,a.r+1,a.t⟩
def wS(a:Ob):Ob:=⟨a.l,a.b-1,a.r,a.b⟩
def wW(a:Ob):Ob:=⟨a.l-1,a.b,a.l,a.t⟩
noncomputable def walls(a:Ob):List Ob:=[wN a,wE a,wS a,wW a]
theorem Rg{x y:Ob}(h:af x=af y):x=y:=by
 cases x;cases y;simp only[af,Ob.mk.injEq] at h ⊢
 lia
theorem g8:∀(k:Nat) {x y:Ob},aa k x=aa k y->x=y
 | 0,_,_,h=>h
 | k+1,_,_,h=>g8 k (Rg h)
theorem az.turn{j:Ob}{os:List Ob}(T:az j os):az (af j) (os.map af) where
 aG:=fun o ho=>by
  obtain⟨x,f,rfl⟩:=bg.mp ho;have:=T.aG x f;simp[af];omega
 ap:=fun a g b i=>by
  obtain⟨x,f,rfl⟩:=bg.mp g;obtain⟨y,r,rfl⟩:=bg.mp i
  rcases T.ap x f y r with e|e
  ·exact .inl (by rw[e])
  ·right;delta Apart at *;simp only[af]
   lia
 hit:=fun p q s t k l=>by
  simp[af] at s t k l;obtain⟨o,ho,k1,k2,k3,k4⟩:=T.hit q (-p-1) k l (by lia) (by lia)
  refine⟨af o,bg.mpr ⟨o,ho,rfl⟩,?_⟩;simp[af]
  lia
 four:=fun a g b i c u d hd h=>by
  obtain⟨x,f,rfl⟩:=bg.mp g;obtain⟨n,v,rfl⟩:=bg.mp i;obtain⟨m,hm,rfl⟩:=bg.mp u;obtain⟨z,w,rfl⟩:=bg.mp hd;simp[af] at h;exact T.four m hm x f z w n v (by lia)
def Up(x y:Ob):Prop:=y.b=x.t/\x.l<y.r/\y.l<x.r
instance {x y:Ob}:Decidable (Up x y):=by unfold Up;infer_instance
section
variable{bx:Ob}{os:List Ob}{x y z n m m':Ob}{α:Type}
theorem ke(hm:m∈walls bx)(i:bx.l<=x.l/\x.l<x.r/\x.r<=bx.r/\bx.b<=x.b/\x.b<x.t/\x.t<=bx.t)(u:Up x m):m=wN bx/\x.t=bx.t:=by
 obtain⟨c,i2,d,i4,i5,i6⟩:=i;obtain⟨a,e,f⟩:=u;simp[walls] at hm
 rcases hm with rfl|rfl|rfl|rfl
 ·exact⟨rfl,a.symm⟩
 ·exact absurd f (Wu.mpr d)
 ·exact absurd (show bx.b-1=x.t from a) (by lia)
 ·exact absurd e (Wu.mpr c)
theorem lS(hm:m∈walls bx)(i:bx.l<=x.l/\x.l<x.r/\x.r<=bx.r/\bx.b<=x.b/\x.b<x.t/\x.t<=bx.t)(u:Up (af x) (af m)):m=wE bx/\x.r=bx.r:=by
 obtain⟨i1,i2,i3,c,i5,d⟩:=i;obtain⟨a,e,f⟩:=u;simp[walls] at hm
 rcases hm with rfl|rfl|rfl|rfl
 ·exact absurd (VU.mp (e)) (Wu.mpr d)
 ·exact⟨rfl,a.symm⟩
 ·exact absurd (VU.mp (f)) (Wu.mpr c)
 ·exact absurd (show bx.l-1=x.r from a) (by lia)
theorem az.cover(T:az bx os)(c:x∈os)(d:x.t<bx.t){p:Int}(h1:x.l<=p)(h2:p<x.r):∃y∈os,Up x y/\y.l<=p/\p<y.r:=by
 have ix:=T.aG x c;obtain⟨y,b,k1,k2,k3,k4⟩:=T.hit p x.t (by omega) (by omega) (by lia) d
 refine⟨y,b,?_,k1,k2⟩;delta Up
 rcases T.ap x c y b with rfl|a
 ·lia
 ·delta Apart at a
  lia
theorem az.next(T:az bx os)(e:x∈os)(f:x.t<bx.t)(c:y∈os)(u:Up x y)(h:y.r<x.r):∃z∈os,Up x z/\z.l=y.r:=by
 delta Up at u;obtain⟨z,b,d,k1,k2⟩:=T.cover e f (by lia) h
 refine⟨z,b,d,?_⟩;have iy:=T.aG y c;have iz:=T.aG z b;delta Up at d
 rcases T.ap y c z b with rfl|a
 ·lia
 ·delta Apart at a;omega
theorem az.prev(T:az bx os)(e:x∈os)(f:x.t<bx.t)(c:y∈os)(u:Up x y)(h:x.l<y.l):∃z∈os,Up x z/\z.r=y.l:=by
 delta Up at u;obtain⟨z,b,d,k1,k2⟩:=T.cover e f (p:=y.l-1) (by lia) (by lia)
 refine⟨z,b,d,?_⟩;have iy:=T.aG y c;have iz:=T.aG z b;delta Up at d
 rcases T.ap y c z b with rfl|a
 ·lia
 ·delta Apart at a;omega
theorem az.tee(T:az bx os)(d:x∈os)(b:n∈os)(hm:m∈os)(un:Up x n)(en:x.r<=n.r)(e:Up (af x) (af m))(em:x.t<=m.t):(x.r<n.r/\m.t=x.t)\/(n.r=x.r/\x.t<m.t):=by
 have jn:=T.aG n b;have jm:=T.aG m hm;delta Up at un e;simp only[af] at e;have f:Apart n m:=by
  rcases T.ap n b m hm with rfl|a
  ·omega
  ·exact a
 delta Apart at f
 by_cases g:n.r=x.r
 ·by_cases h:m.t=x.t
  ·exfalso;obtain⟨z,c,k1,k2,k3,k4⟩:=T.hit x.r x.t (by omega) (by lia) (by lia) (by lia)
   have i:Apart n z:=by
    rcases T.ap n b z c with rfl|a
    ·lia
    ·exact a
   have j:Apart m z:=by
    rcases T.ap m hm z c with rfl|a
    ·lia
    ·exact a
   delta Apart at i j;exact T.four x d n b m hm z c ⟨g,un.1,by lia,h,by lia,by lia⟩
  ·lia
 ·lia
def my(x n m:Ob):Prop:=(Up x n/\Up x m/\n.r=m.l)\/(Up x n/\x.r<=n.r/\Up (af x) (af m)/\x.t<=m.t)
def cz(x n m:Ob):Prop:=∃k,k<4/\my (aa k x) (aa k n) (aa k m)
theorem mI(o:Ob):af (af (af (af o)))=o:=by
 cases o;simp[af]
theorem cz.up{x n m:Ob}(h:cz (af x) (af n) (af m)):cz x n m:=by
 obtain⟨k,hk,h⟩:=h;have e:∀(k:Nat) (o:Ob),aa k (af o)=aa (k+1) o:=fun k o=>by
  induction k with
  | zero=>rfl
  | succ k b=>show af (aa k (af o))=_;rw[b];rfl
 simp[e] at h
 by_cases c:k=3
 ·subst c;refine⟨0,by decide,?_⟩
  have a:∀o,aa (3+1) o=aa 0 o:=fun o=>mI o
  simp[a] at h;exact h
 ·exact⟨k+1,by lia,h⟩
theorem az.Nm(T:az bx os)(p:x∈os)(h:my x n m)(c:n∈os\/n∈walls bx)(hm:m∈os\/m∈walls bx):(n∈os->cz n m x)/\(m∈os->cz m x n):=by
 have i:=T.aG x p;have no:∀{o:Ob},o∈os->o∈walls bx->False:=fun {o} h h'=>by
  have:=T.aG o h;simp[walls] at h'
  rcases h' with rfl|rfl|rfl|rfl<;>dsimp only[wN,wE,wS,wW] at this<;>omega
 rcases h with⟨un,d,e⟩|⟨un,q,d,em⟩
 ·have f:n∈os:=c.resolve_right fun h=>by
   obtain⟨rfl,_⟩:=ke h i un;have:=d.2.2;dsimp only[wN] at e;omega
  have g:m∈os:=hm.resolve_right fun h=>by
   obtain⟨rfl,_⟩:=ke h i d;have:=un.2.1;dsimp only[wN] at e;omega
  have r:=T.aG n f;have s:=T.aG m g;obtain⟨a1,u,v⟩:=un;obtain⟨j,k,l⟩:=d;refine⟨fun _=>⟨1,by decide,.inr ?_⟩,fun _=>⟨2,by decide,.inr ?_⟩⟩
  ·dsimp only[aa,af,Up]
   and_intros<;>first|assumption|exact T' ‹_›|omega
  ·dsimp only[aa,af,Up]
   and_intros<;>first|assumption|exact T' ‹_›|omega
 ·rcases c with c|c<;>rcases hm with hm|hm
  ·have r:=T.aG n c;have s:=T.aG m hm;have t:=T.tee p c hm un q d em;obtain⟨a1,u,v⟩:=un;obtain⟨j,k,l⟩:=d;dsimp only[af] at j k l
   rcases t with⟨a,b⟩|⟨a,b⟩
   ·refine⟨fun _=>⟨2,by decide,.inl ?_⟩,fun _=>⟨3,by decide,.inr ?_⟩⟩
    ·dsimp only[aa,af,Up]
     and_intros<;>first|assumption|exact T' ‹_›|omega
    ·dsimp only[aa,af,Up]
     and_intros<;>first|assumption|exact T' ‹_›|omega
   ·refine⟨fun _=>⟨1,by decide,.inr ?_⟩,fun _=>⟨3,by decide,.inl ?_⟩⟩
    ·dsimp only[aa,af,Up]
     and_intros<;>first|assumption|exact T' ‹_›|omega
    ·dsimp only[aa,af,Up]
     and_intros<;>first|assumption|exact T' ‹_›|omega
  ·have r:=T.aG n c;obtain⟨rfl,w⟩:=lS hm i d;obtain⟨a1,u,v⟩:=un;refine⟨fun _=>⟨1,by decide,.inr ?_⟩,fun g=>(no g hm).elim⟩
   dsimp only[aa,af,Up,wE] at em ⊢
   and_intros<;>first|assumption|exact T' ‹_›|omega
  ·have s:=T.aG m hm;obtain⟨rfl,w⟩:=ke c i un;obtain⟨j,k,l⟩:=d;refine⟨fun f=>(no f c).elim,fun _=>⟨3,by decide,.inr ?_⟩⟩
   dsimp only[aa,af,Up,wN] at q j k l ⊢
   and_intros<;>first|assumption|exact T' ‹_›|omega
  ·exact⟨fun f=>(no f c).elim,fun g=>(no g hm).elim⟩
theorem iA{x y:Ob}(a:x.l=y.l)(c:x.b=y.b)(d:x.r=y.r)(e:x.t=y.t):x=y:=by
 cases x;simp_all
theorem G'{bx o:Ob}(h:o∈walls bx):af o∈walls (af bx):=by
 have h:o=wN bx\/o=wE bx\/o=wS bx\/o=wW bx:=by simpa[walls] using h
 rcases h with rfl|rfl|rfl|rfl
 ·rw[show af (wN bx)=wW (af bx) from iA (by simp only[af,wN,wW]<;>lia) (by simp only[af,wN,wW]<;>omega) (by simp only[af,wN,wW]<;>omega) (by simp only[af,wN,wW]<;>omega)];simp[walls]
 ·rw[show af (wE bx)=wN (af bx) from iA (by simp only[af,wE,wN]<;>omega) (by simp only[af,wE,wN]<;>omega) (by simp only[af,wE,wN]<;>omega) (by simp only[af,wE,wN]<;>omega)];simp[walls]
 ·rw[show af (wS bx)=wE (af bx) from iA (by simp only[af,wS,wE]<;>omega) (by simp only[af,wS,wE]<;>omega) (by simp only[af,wS,wE]<;>lia) (by simp only[af,wS,wE]<;>omega)];simp[walls]
 ·rw[show af (wW bx)=wS (af bx) from iA (by simp only[af,wW,wS]<;>omega) (by simp only[af,wW,wS]<;>omega) (by simp only[af,wW,wS]<;>omega) (by simp only[af,wW,wS]<;>omega)];simp[walls]
theorem az.turns{bx:Ob}{os:List Ob}(T:az bx os):∀k,az (aa k bx) (os.map (aa k))
 | 0=>by
  show az bx (os.map fun o=>o)
  rw[UT];exact T
 | k+1=>by
  have:=(T.turns k).turn;rw[fk] at this;exact this
theorem qK{bx o:Ob}(h:o∈walls bx):∀k,aa k o∈walls (aa k bx)
 | 0=>h
 | k+1=>G' (qK h k)
theorem cz.ups:∀(k:Nat) {x n m:Ob},cz (aa k x) (aa k n) (aa k m)->cz x n m
 | 0,_,_,_,h=>h
 | k+1,_,_,_,h=>cz.ups k (cz.up h)
theorem az.close(T:az bx os)(d:x∈os)(h:cz x n m)(e:n∈os\/n∈walls bx)(hm:m∈os\/m∈walls bx):(n∈os->cz n m x)/\(m∈os->cz m x n):=by
 obtain⟨k,hk,h⟩:=h;have c:∀{o:Ob},o∈os->aa k o∈os.map (aa k):=fun {o} h=>bg.mpr ⟨o,h,rfl⟩
 have up:∀{o:Ob},(o∈os\/o∈walls bx)->(aa k o∈os.map (aa k)\/aa k o∈walls (aa k bx)):=fun {o} h=>h.imp c (fun h=>qK h k)
 obtain⟨a,b⟩:=(T.turns k).Nm (c d) h (up e) (up hm);exact⟨fun z=>cz.ups k (a (c z)),fun z=>cz.ups k (b (c z))⟩
def Nb(bx:Ob)(os:List Ob)(o:Ob):Prop:=o∈os\/o∈walls bx
theorem Nb.ok(T:az bx os)(a:bx.ok)(h:Nb bx os n):n.l<n.r/\n.b<n.t:=by
 delta Ob.ok at a
 rcases h with h|h
 ·have:=T.aG n h;lia
 ·have h:n=wN bx\/n=wE bx\/n=wS bx\/n=wW bx:=by simpa[walls] using h
  rcases h with rfl|rfl|rfl|rfl<;>simp only[wN,wE,wS,wW]<;>lia
theorem Nb.ap(T:az bx os)(a:bx.ok)(h:Nb bx os n)(h':Nb bx os m):n=m\/Apart n m:=by
 have wl:∀{o:Ob},o∈walls bx->o=wN bx\/o=wE bx\/o=wS bx\/o=wW bx:=fun {o} h=>by simpa[walls] using h
 delta Apart;delta Ob.ok at a
 rcases h with h|h<;>rcases h' with h'|h'
 ·exact T.ap n h m h'
 ·have i:=T.aG n h;right
  rcases wl h' with rfl|rfl|rfl|rfl<;>simp only[wN,wE,wS,wW]<;>omega
 ·have i:=T.aG m h';right
  rcases wl h with rfl|rfl|rfl|rfl<;>simp only[wN,wE,wS,wW]<;>omega
 ·rcases wl h with rfl|rfl|rfl|rfl<;>rcases wl h' with rfl|rfl|rfl|rfl<;>first|exact .inl rfl|(right;simp only[wN,wE,wS,wW];omega)
theorem LP(hx:x.l<x.r/\x.b<x.t)(om:m.l<m.r/\m.b<m.t)(om':m'.l<m'.r/\m'.b<m'.t)(ap:m=m'\/Apart m m')(h:my x n m)(h':my x n m'):m=m':=by
 rcases ap with e|a
 ·exact e
 ·delta my Up Apart at *;simp[af] at *;omega
theorem zK{k j:Nat}(hk:k<4)(hj:j<4)(ox:x.l<x.r/\x.b<x.t)(on:n.l<n.r/\n.b<n.t)(h:Up (aa k x) (aa k n))(h':Up (aa j x) (aa j n)):k=j:=by
 have a:k=0\/k=1\/k=2\/k=3:=by lia
 have c:j=0\/j=1\/j=2\/j=3:=by lia
 delta Up at *
 rcases a with rfl|rfl|rfl|rfl<;>rcases c with rfl|rfl|rfl|rfl<;>first|rfl|(exfalso;simp only[aa,af] at *;lia)
theorem BD(k:Nat)(h:n=m\/Apart n m):aa k n=aa k m\/Apart (aa k n) (aa k m):=by
 rcases h with h|h
 ·exact .inl (by rw[h])
 ·right;induction k with
  | zero=>exact h
  | succ k ih =>
   show Apart (af (aa k n)) (af (aa k m));unfold Apart at *;simp only[af]
   lia
theorem lO(k:Nat)(h:n.l<n.r/\n.b<n.t):(aa k n).l<(aa k n).r/\(aa k n).b<(aa k n).t:=by
 induction k with
 | zero=>exact h
 | succ k ih =>
  simp only[aa,af]
  lia
theorem my.up{x n m:Ob}(h:my x n m):Up x n:=by
 rcases h with⟨h,_⟩|⟨h,_⟩<;>exact h
theorem az.Je(T:az bx os)(a:bx.ok)(e:x∈os)(f:Nb bx os n)(hm:Nb bx os m)(c:Nb bx os m')(h:cz x n m)(h':cz x n m'):m=m':=by
 obtain⟨k,g,h⟩:=h;obtain⟨j,i,h'⟩:=h';have d:=Nb.ok T a (.inl e);have:=zK g i d (Nb.ok T a f) h.up h'.up;subst this;exact g8 k (LP (lO k d) (lO k (Nb.ok T a hm)) (lO k (Nb.ok T a c)) (BD k (Nb.ap T a hm c)) h h')
def bz(N:List Ob)(x:Ob)(k:Nat):List Ob:=(N.filter fun y=>decide (Up (aa k x) (aa k y))).mergeSort fun a b=>decide ((aa k a).l<=(aa k b).l)
def ba(N:List Ob)(x:Ob):List Ob:=bz N x 0++bz N x 1++bz N x 2++bz N x 3
theorem gA{N:List Ob}{x y:Ob}{k:Nat}:y∈bz N x k ↔ y∈N/\Up (aa k x) (aa k y):=by
 delta bz;simp
theorem LD{N:List Ob}{x:Ob}{k:Nat}{i j:Nat}{a b:Ob}(hij:i<=j)(h:(bz N x k)[i]?=some a)(d:(bz N x k)[j]?=some b):(aa k a).l<=(aa k b).l:=by
 by_cases e:i=j
 ·subst e;rw[h] at d;obtain rfl:=sO d;exact U' _
 ·have:=ua (le:=fun a b=>decide ((aa k a).l<=(aa k b).l)) (fun a b c o p=>by
   simp at *
   lia) (fun a b=>by
   lia) (N.filter fun y=>decide (Up (aa k x) (aa k y)))
  obtain⟨o,f⟩:=bt.mp h;obtain⟨p,g⟩:=bt.mp d;have:=oy.mp this i j o p (by lia)
  rw[decide_eq_true_eq] at this;rw[<-f,<-g];exact this
theorem az.F4(T:az bx os)(J:bx.ok)(w:x∈os){l:List Ob}(hm:∀y,y∈l ↔ Nb bx os y/\Up x y)(nd:l.Nodup)(hs:∀(i j:Nat) a b,i<=j->l[i]?=some a->l[j]?=some b->a.l<=b.l) :
  l≠[]/\(∀(i:Nat) a b,l[i]?=some a->l[i+1]?=some b->a.r=b.l)/\(∀a,l[0]?=some a->a.l<=x.l)/\(∀a,l[l.length-1]?=some a->x.r<=a.r):=by
 have ix:=T.aG x w;have wl:∀{o:Ob},o∈walls bx->o=wN bx\/o=wE bx\/o=wS bx\/o=wW bx:=fun {o} h=>by simpa[walls] using h
 by_cases B:x.t<bx.t
 ·have room:∀y∈l,y∈os/\Up x y:=fun y A=>by
   obtain⟨f,d⟩:=(hm y).mp A;refine⟨?_,d⟩
   rcases f with h|h
   ·exact h
   ·exfalso;delta Up at d
    rcases wl h with rfl|rfl|rfl|rfl<;>simp only[wN,wE,wS,wW] at d<;>omega
  have at_:∀{z:Ob},z∈os->Up x z->∃j,l[j]?=some z:=fun {z} k s=>by
   obtain⟨j,g,e⟩:=qt ((hm z).mpr ⟨.inl k,s⟩);exact⟨j,by rw[cA g,e]⟩
  refine⟨?_,?_,?_,?_⟩
  ·obtain⟨y,A,K,_⟩:=T.cover w B (p:=x.l) (by lia) (by omega)
   exact fun z=>by
    have:=(hm y).mpr ⟨.inl A,K⟩;rw[z] at this;cases this
  ·intro i a b c u;obtain⟨q,v⟩:=room a (eR c);obtain⟨E,F⟩:=room b (eR u);have L:=T.aG a q;have jb:=T.aG b E;have G:a≠b:=fun e=>by
    subst e;have f:=(bt.mp c);have d:=(bt.mp u);obtain⟨f,C⟩:=f;obtain⟨d,D⟩:=d;have:=oy.mp nd i (i+1) f d (by lia)
    simp only[C,D] at this;exact this rfl
   have sab:=hs i (i+1) a b (by lia) c u
   have ap:=(T.ap a q b E).resolve_left G;have hle:a.r<=b.l:=by
    unfold Apart at ap;delta Up at v F;omega
   obtain⟨z,k,s,H⟩:=T.next w B q v (by unfold Up at F;omega)
   obtain⟨j,g⟩:=at_ k s
   by_cases I:j<=i
   ·have:=hs j i z a I g c;omega
   ·have:=hs (i+1) j b z (by lia) u g
    lia
  ·intro a c;obtain⟨q,v⟩:=room a (eR c);refine VG fun h=>?_
   obtain⟨z,k,s,H⟩:=T.prev w B q v (by lia)
   obtain⟨j,g⟩:=at_ k s;have:=hs 0 j a z (by lia) c g
   have jz:=T.aG z k;omega
  ·intro a c;obtain⟨q,v⟩:=room a (eR c);refine VG fun h=>?_
   obtain⟨z,k,s,H⟩:=T.next w B q v (by lia)
   obtain⟨j,g⟩:=at_ k s;have hjl:=(bt.mp g).1;have:=hs j (l.length-1) z a (by omega) g c
   have L:=T.aG a q;omega
 ·have only:∀y∈l,y=wN bx:=fun y A=>by
   obtain⟨f,d⟩:=(hm y).mp A;delta Up at d
   rcases f with h|h
   ·have:=T.aG y h;omega
   ·rcases wl h with rfl|rfl|rfl|rfl
    ·rfl
    all_goals exfalso;simp only[wE,wS,wW] at d;lia
  have there:wN bx∈l:=(hm _).mpr ⟨.inr (by simp[walls]),by delta Up wN;dsimp only;omega⟩
  refine⟨fun z=>(by rw[z] at there;cases there),?_,?_,?_⟩
  ·intro i a b c u;exfalso;have M:=only a (eR c);have N:=only b (eR u);obtain⟨f,C⟩:=bt.mp c;obtain⟨d,D⟩:=bt.mp u;have:=oy.mp nd i (i+1) f d (by lia)
   simp only[C,D,M,N] at this;exact this rfl
  ·intro a c;rw[only a (eR c)];simp only[wN];omega
  ·intro a c;rw[only a (eR c)];simp only[wN];omega
theorem pS(k:Nat){y:Ob}:Nb (aa k bx) (os.map (aa k)) (aa k y) ↔ Nb bx os y:=by
 have wl:∀k y,aa k y∈walls (aa k bx)->y∈walls bx:=fun k=>by
  induction k with
  | zero=>exact fun y h=>h
  | succ k j =>
   intro y h;refine j y ?_;have h:af (aa k y)∈walls (af (aa k bx)):=h;generalize aa k y=a at h;generalize aa k bx=c at h;have h:af a=wN (af c)\/af a=wE (af c)\/af a=wS (af c)\/af a=wW (af c):=by simpa[walls] using h
   have:a=wE c\/a=wS c\/a=wW c\/a=wN c:=by
    rcases h with h|h|h|h
    ·left;have d:=congrArg Ob.l h;have f:=congrArg Ob.b h;have g:=congrArg Ob.r h;have i:=congrArg Ob.t h;simp only[af,wN] at d f g i;exact iA (by simp only[wE];omega) (by simp only[wE];omega) (by simp only[wE];omega) (by simp only[wE];omega)
    ·right;left;have d:=congrArg Ob.l h;have f:=congrArg Ob.b h;have g:=congrArg Ob.r h;have i:=congrArg Ob.t h;simp only[af,wE] at d f g i;exact iA (by simp only[wS];omega) (by simp only[wS];lia) (by simp only[wS];omega) (by simp only[wS];lia)
    ·right;right;left;have d:=congrArg Ob.l h;have f:=congrArg Ob.b h;have g:=congrArg Ob.r h;have i:=congrArg Ob.t h;simp only[af,wS] at d f g i;exact iA (by simp only[wW];omega) (by simp only[wW];omega) (by simp only[wW];omega) (by simp only[wW];omega)
    ·right;right;right;have d:=congrArg Ob.l h;have f:=congrArg Ob.b h;have g:=congrArg Ob.r h;have i:=congrArg Ob.t h;simp only[af,wW] at d f g i;exact iA (by simp only[wN];omega) (by simp only[wN];lia) (by simp only[wN];omega) (by simp only[wN];lia)
   rcases this with rfl|rfl|rfl|rfl<;>simp[walls]
 constructor
 ·rintro (h|h)
  ·obtain⟨z,o,e⟩:=bg.mp h;rw[<-g8 k e];exact .inl o
  ·exact .inr (wl k y h)
 ·rintro (h|h)
  ·exact .inl (bg.mpr ⟨y,h,rfl⟩)
  ·exact .inr (qK h k)
theorem kE(k:Nat)(h:bx.ok):(aa k bx).ok:=lO k h
theorem uZ(k:Nat)(hk:k<4)(o:Ob):∃y,aa k y=o:=by
 have a:=mI;have b:k=0\/k=1\/k=2\/k=3:=by lia
 rcases b with rfl|rfl|rfl|rfl
 ·exact⟨o,rfl⟩
 ·exact⟨af (af (af o)),a o⟩
 ·exact⟨af (af o),a o⟩
 ·exact⟨af o,a o⟩
theorem az.chain(T:az bx os)(s:bx.ok)(t:x∈os)(nd:(os++walls bx).Nodup){k:Nat}(u:k<4):bz (os++walls bx) x k≠[]/\(∀(i:Nat) a b,(bz (os++walls bx) x k)[i]?=some a->(bz (os++walls bx) x k)[i+1]?=some b->(aa k a).r=(aa k b).l) /\
  (∀a,(bz (os++walls bx) x k)[0]?=some a->(aa k a).l<=(aa k x).l)/\(∀a,(bz (os++walls bx) x k)[(bz (os++walls bx) x k).length-1]?=some a->(aa k x).r<=(aa k a).r):=by
 have sn:(bz (os++walls bx) x k).Nodup:=(hA _ _).nodup_iff.mpr (mu ri nd);have key:=(T.turns k).F4 (kE k s) (bg.mpr ⟨x,t,rfl⟩) (fun y=>by
  obtain⟨z,rfl⟩:=uZ k u y;rw[pS,bg];constructor
  ·rintro⟨w,hw,e⟩;rw[g8 k e] at hw;obtain⟨f,g⟩:=gA.mp hw;exact⟨et.mp f,g⟩
  ·rintro⟨f,g⟩;exact⟨z,gA.mpr ⟨et.mpr f,g⟩,rfl⟩) (gj.mpr (sn.imp fun h e=>h (g8 k e))) (fun i j a b o c d=>by
  rw[eo] at c d;obtain⟨a',p,rfl⟩:=j'.mp c;obtain⟨b',q,rfl⟩:=j'.mp d;exact LD o p q)
 obtain⟨k1,k2,k3,v⟩:=key;refine⟨fun z=>k1 (by rw[z];rfl),fun i a b c d=>k2 i _ _ (by rw[eo,c];rfl) (by rw[eo,d];rfl),fun a c=>k3 _ (by rw[eo,c];rfl),fun a c=>v _ (by rw[a7,eo,c];rfl)⟩
def o9{α:Type}(R:α->α->Prop)(l:List α):Prop:=∀(i:Nat) a b,l[i]?=some a->l[i+1]?=some b->R a b
theorem w8{α:Type}{R:α->α->Prop}{A B:List α}(f:o9 R A)(g:o9 R B)(h:∀a b,A[A.length-1]?=some a->B[0]?=some b->R a b):o9 R (A++B):=by
 intro i a b c d
 by_cases j:i+1<A.length
 ·rw[kq (by omega)] at c
  rw[kq j] at d;exact f i a b c d
 ·by_cases k:i<A.length
  ·have e:i=A.length-1:=by omega
   rw[kq k,e] at c;rw[lz (by omega),show i+1-A.length=0 from by omega] at d
   exact h a b c d
  ·rw[lz (by omega)] at c d
   exact g (i-A.length) a b c (by rw[show i-A.length+1=i+1-A.length from by omega];exact d)
theorem w6{α:Type}{A B:List α}(a:B≠[]):(A++B)[(A++B).length-1]?=B[B.length-1]?:=by
 have:=pB.mpr a;rw[lz (by rw[eH];omega),eH]
 congr 1
 lia
theorem GX{α:Type}{A B:List α}(a:A≠[]):(A++B)[0]?=A[0]?:=by
 have:=pB.mpr a;rw[kq this]
theorem az.tL(T:az bx os)(f:bx.ok)(g:x∈os)(nd:(os++walls bx).Nodup){k:Nat}(c:k<4):o9 (cz x) (bz (os++walls bx) x k):=by
 intro i a b d e;refine⟨k,c,.inl ⟨(gA.mp (eR d)).2,(gA.mp (eR e)).2,(T.chain f g nd c).2.1 i a b d e⟩⟩
theorem az.sX(T:az bx os)(d:bx.ok)(e:x∈os)(nd:(os++walls bx).Nodup){k j:Nat}(f:k<4)(i:j<4)(c:∀o,aa j o=af (aa k o)){a b:Ob}(g:(bz (os++walls bx) x k)[(bz (os++walls bx) x k).length-1]?=some a)(h:(bz (os++walls bx) x j)[0]?=some b):cz x a b:=by
 refine⟨k,f,.inr ⟨(gA.mp (eR g)).2,(T.chain d e nd f).2.2.2 a g,?_,?_⟩⟩
 ·simp[<-c];exact (gA.mp (eR h)).2
 ·have:=(T.chain d e nd i).2.2.1 b h;rw[c,c] at this;simp[af] at this
  lia
theorem az.vy(T:az bx os)(c:bx.ok)(d:x∈os)(nd:(os++walls bx).Nodup){i:Nat}{a b:Ob}(f:(ba (os++walls bx) x)[i]?=some a)(g:(ba (os++walls bx) x)[(i+1)%(ba (os++walls bx) x).length]?=some b):cz x a b:=by
 have t:=(T.chain c d nd (k:=0) (by decide)).1
 have u:=(T.chain c d nd (k:=1) (by decide)).1
 have v:=(T.chain c d nd (k:=2) (by decide)).1
 have w:=(T.chain c d nd (k:=3) (by decide)).1
 have l:∀a b,(bz (os++walls bx) x 0)[(bz (os++walls bx) x 0).length-1]?=some a->(bz (os++walls bx) x 1)[0]?=some b->cz x a b:=fun a b=>T.sX c d nd (by decide) (by decide) fun o=>rfl
 have p:∀a b,(bz (os++walls bx) x 1)[(bz (os++walls bx) x 1).length-1]?=some a->(bz (os++walls bx) x 2)[0]?=some b->cz x a b:=fun a b=>T.sX c d nd (by decide) (by decide) fun o=>rfl
 have q:∀a b,(bz (os++walls bx) x 2)[(bz (os++walls bx) x 2).length-1]?=some a->(bz (os++walls bx) x 3)[0]?=some b->cz x a b:=fun a b=>T.sX c d nd (by decide) (by decide) fun o=>rfl
 have r:∀a b,(bz (os++walls bx) x 3)[(bz (os++walls bx) x 3).length-1]?=some a->(bz (os++walls bx) x 0)[0]?=some b->cz x a b:=fun a b=>T.sX c d nd (k:=3) (j:=0) (by decide) (by decide) fun o=>(mI o).symm
 have s:o9 (cz x) (ba (os++walls bx) x):=by
  refine w8 (w8 (w8 (T.tL c d nd (by decide)) (T.tL c d nd (by decide)) l) (T.tL c d nd (by decide)) fun a b f g=>?_) (T.tL c d nd (by decide)) fun a b f g=>?_
  ·rw[w6 u] at f;exact p a b f g
  ·rw[w6 v] at f;exact q a b f g
 have hi:=(bt.mp f).1
 by_cases h:i+1<(ba (os++walls bx) x).length
 ·rw[qp h] at g;exact s i a b f g
 ·have e:i+1=(ba (os++walls bx) x).length:=by lia
  rw[e,UZ] at g;have B:i=(ba (os++walls bx) x).length-1:=by lia
  rw[B] at f;refine r a b ?_ ?_
  ·have:=w6 (A:=bz (os++walls bx) x 0++bz (os++walls bx) x 1++bz (os++walls bx) x 2) w;rw[<-this];exact f
  ·have C:(ba (os++walls bx) x)[0]?=(bz (os++walls bx) x 0)[0]?:=by
    delta ba;rw[ph,ph,GX t]
   rw[<-C];exact g
theorem hX{N:List Ob}{y:Ob}:y∈ba N x ↔ y∈N/\∃k,k<4/\Up (aa k x) (aa k y):=by
 delta ba;simp only[et,gA,gA,gA,gA];constructor
 ·rintro (((h|h)|h)|h)
  ·exact⟨h.1,0,by decide,h.2⟩
  ·exact⟨h.1,1,by decide,h.2⟩
  ·exact⟨h.1,2,by decide,h.2⟩
  ·exact⟨h.1,3,by decide,h.2⟩
 ·rintro⟨h,k,hk,u⟩;have a:k=0\/k=1\/k=2\/k=3:=by lia
  rcases a with rfl|rfl|rfl|rfl
  ·exact .inl (.inl (.inl ⟨h,u⟩))
  ·exact .inl (.inl (.inr ⟨h,u⟩))
  ·exact .inl (.inr ⟨h,u⟩)
  ·exact .inr ⟨h,u⟩
theorem az.Of(T:az bx os)(f:bx.ok)(h:x∈os)(nd:(os++walls bx).Nodup):(ba (os++walls bx) x).Nodup:=by
 have sn:∀k,(bz (os++walls bx) x k).Nodup:=fun k=>(hA _ _).nodup_iff.mpr (mu ri nd)
 have i:=Nb.ok T f (.inl h);have fH:∀{j k:Nat},j<4->k<4->j≠k->∀a∈bz (os++walls bx) x j,∀b∈bz (os++walls bx) x k,a≠b:=fun {j k} o p g a c b d e=>by
  subst e;obtain⟨q,s⟩:=gA.mp c;obtain⟨h2,u⟩:=gA.mp d;exact g (zK o p i (Nb.ok T f (et.mp q)) s u)
 delta ba;rw[iR,iR,iR];refine⟨⟨⟨sn 0,sn 1,fH (by decide) (by decide) (by decide)⟩,sn 2,fun a c b d=>?_⟩,sn 3,fun a c b d=>?_⟩
 ·rcases et.mp c with c|c
  ·exact fH (by decide) (by decide) (by decide) a c b d
  ·exact fH (by decide) (by decide) (by decide) a c b d
 ·rcases et.mp c with c|c
  ·rcases et.mp c with c|c
   ·exact fH (by decide) (by decide) (by decide) a c b d
   ·exact fH (by decide) (by decide) (by decide) a c b d
  ·exact fH (by decide) (by decide) (by decide) a c b d
def a8{α:Type}(l:List α)(n m:α):Prop:=∃i,l[i]?=some n/\l[(i+1)%l.length]?=some m
theorem az.dH(T:az bx os)(b:bx.ok)(c:x∈os)(nd:(os++walls bx).Nodup)(d:Nb bx os n)(hm:Nb bx os m):a8 (ba (os++walls bx) x) n m ↔ cz x n m:=by
 constructor
 ·rintro⟨i,l,o⟩;exact T.vy b c nd l o
 ·intro h;have p:n∈ba (os++walls bx) x:=by
   obtain⟨k,q,f⟩:=h;exact hX.mpr ⟨et.mpr d,k,q,f.up⟩
  obtain⟨i,r,e⟩:=qt p;have e:(ba (os++walls bx) x)[i]?=some n:=by rw[cA r,e]
  have g:(i+1)%(ba (os++walls bx) x).length<(ba (os++walls bx) x).length:=W1 _ (by lia)
  have a:=cA g;generalize (ba (os++walls bx) x)[(i+1)%(ba (os++walls bx) x).length]=m' at a;have s:=T.vy b c nd e a;have j:=et.mp (hX.mp (eR a)).1;have:=T.Je b c d hm j h s;subst this;exact⟨i,e,a⟩
theorem az.zV(T:az bx os)(d:bx.ok)(c:x∈os)(nd:(os++walls bx).Nodup)(h:a8 (ba (os++walls bx) x) n m):(n∈os->a8 (ba (os++walls bx) n) m x)/\(m∈os->a8 (ba (os++walls bx) m) x n):=by
 have e:Nb bx os n:=by
  obtain⟨i,f,_⟩:=h;exact et.mp (hX.mp (eR f)).1
 have hm:Nb bx os m:=by
  obtain⟨i,_,f⟩:=h;exact et.mp (hX.mp (eR f)).1
 obtain⟨a,b⟩:=T.close c ((T.dH d c nd e hm).mp h) e hm;exact⟨fun z=>(T.dH d z nd hm (.inl c)).mpr (a z),fun z=>(T.dH d z nd (.inl c) e).mpr (b z)⟩
noncomputable def aA{α:Type}(f:α->Nat):List α->Nat
 | []=>0
 | a::l=>f a+aA f l
theorem sR{α:Type}(f:α->Nat):∀l b:List α,aA f (l++b)=aA f l+aA f b
 | [],b=>by simp[aA]
 | a::l,b=>by
  show f a+aA f (l++b)=f a+aA f l+aA f b;rw[sR f l b]
  lia
theorem cJ{α:Type}{f g:α->Nat}:∀{l:List α},(∀a∈l,f a=g a)->aA f l=aA g l
 | [],_=>rfl
 | a::l,h=>by
  show f a+aA f l=g a+aA g l;rw[h a (by simp),cJ fun b c=>h b (by simp[c])]
theorem hV{α:Type}(f g:α->Nat):∀l:List α,aA (fun a=>f a+g a) l=aA f l+aA g l
 | []=>rfl
 | a::l=>by
  show f a+g a+aA (fun a=>f a+g a) l=f a+aA f l+(g a+aA g l)
  rw[hV f g l]
  lia
theorem pJ{α:Type}(c:Nat):∀l:List α,aA (fun _=>c) l=c*l.length
 | []=>rfl
 | a::l=>by
  show c+aA (fun _=>c) l=c*(l.length+1)
  simp only[pJ c l,Nat.mul_add]
  lia
theorem uQ{α:Type}(p:α->Bool):∀l:List α,aA (fun a=>if p a=true then 1 else 0) l=l.countP p
 | []=>rfl
 | a::l=>by
  show (if p a=true then 1 else 0)+aA (fun a=>if p a=true then 1 else 0) l=_
  simp only[uQ p l,nk]
  lia
theorem rO{α d:Type}(p:α->d->Bool)(l:List α)(c:List d):aA (fun a=>c.countP (p a)) l=aA (fun b=>l.countP fun a=>p a b) c:=by
 induction l with
 | nil =>
  show 0=_;simp[show aA (fun b=>YJ (fun a=>p a b) []) c=aA (fun _=>0) c from rfl,pJ,Nat.zero_mul]
 | cons a l e =>
  show c.countP (p a)+aA (fun a=>c.countP (p a)) l=_
  rw[e,<-uQ,<-hV];refine cJ fun b _=>?_
  simp[nk]
  lia
theorem hU{α:Type}(p q:α->Bool)(l:List α):l.countP p=(l.countP fun a=>p a&&q a)+l.countP fun a=>p a&&!q a:=by
 induction l with
 | nil=>rfl
 | cons a l b =>
  simp only[nk,b];cases p a<;>cases q a<;>simp<;>lia
theorem mM{α:Type}{p:α->Bool}{l:List α}(nd:l.Nodup)(ex:∃a∈l,p a=true)(un:∀a∈l,∀b∈l,p a=true->p b=true->a=b):l.countP p=1:=by
 induction l with
 | nil=>obtain⟨a,h,_⟩:=ex;cases h
 | cons c l j =>
  rw[me] at nd;rw[nk]
  by_cases e:p c=true
  ·rw[if_pos e];have:l.countP p=0:=by
    rw[rk];intro b f i;have:=un c (by simp) b (by simp[f]) e i
    subst this;exact nd.1 f
   lia
  ·rw[if_neg e];obtain⟨a,d,g⟩:=ex
   rcases ey.mp d with rfl|d
   ·exact absurd g e
   ·rw[j nd.2 ⟨a,d,g⟩ fun a d b f=>un a (by simp[d]) b (by simp[f])]
theorem az.xl(T:az bx os)(f:bx.ok)(c:Nb bx os z)(g:x∈os)(u:Up z x){p:Int}(h1:z.l<=p)(h2:p<z.r):∃y∈os,Up z y/\y.l<=p/\p<y.r:=by
 have ix:=T.aG x g;have oz:=Nb.ok T f c;have wl:∀{o:Ob},o∈walls bx->o=wN bx\/o=wE bx\/o=wS bx\/o=wW bx:=fun {o} h=>by simpa[walls] using h
 have hb:bx.l<=z.l/\z.r<=bx.r/\bx.b<=z.t/\z.t<bx.t:=by
  delta Up at u
  rcases c with h|h
  ·have:=T.aG z h;omega
  ·rcases wl h with rfl|rfl|rfl|rfl<;>simp only[wN,wE,wS,wW] at u ⊢<;>omega
 obtain⟨y,d,k1,k2,k3,k4⟩:=T.hit p z.t (by omega) (by omega) (by omega) (by omega)
 refine⟨y,d,?_,k1,k2⟩;delta Up
 rcases Nb.ap T f c (.inl d) with e|a
 ·subst e
  lia
 ·delta Apart at a
  lia
theorem az.firsts(T:az bx os)(i:bx.ok)(nd:os.Nodup)(j:Nb bx os z):(os.countP fun x=>decide (Up z x)&&decide (z.l<x.l))=os.countP fun x=>decide (Up z x)&&decide (x.r<z.r):=by
 by_cases h:∃x∈os,Up z x
 ·obtain⟨x,g,u⟩:=h;have v:=Nb.ok T i j;have w:=hU (fun x=>decide (Up z x)) (fun x=>decide (z.l<x.l)) os
  have A:=hU (fun x=>decide (Up z x)) (fun x=>decide (x.r<z.r)) os
  have B:(os.countP fun a=>decide (Up z a)&&!decide (z.l<a.l))=1:=by
   refine mM nd ?_ ?_
   ·obtain⟨y,k,o,k1,k2⟩:=T.xl i j g u (by lia) v.1
    exact⟨y,k,by simp[o];omega⟩
   ·intro a c b d e f;simp at e f;have C:=T.aG a c;have D:=T.aG b d;refine (T.ap a c b d).resolve_right fun q=>?_
    unfold Apart at q;delta Up at e f;omega
  have E:(os.countP fun a=>decide (Up z a)&&!decide (a.r<z.r))=1:=by
   refine mM nd ?_ ?_
   ·obtain⟨y,k,o,k1,k2⟩:=T.xl i j g u (p:=z.r-1) (by lia) (by lia)
    exact⟨y,k,by simp[o];lia⟩
   ·intro a c b d e f;simp at e f;have C:=T.aG a c;have D:=T.aG b d;refine (T.ap a c b d).resolve_right fun q=>?_
    unfold Apart at q;delta Up at e f;omega
  simp[B] at w;rw[E] at A
  lia
 ·have s:∀q:Ob->Bool,(os.countP fun x=>decide (Up z x)&&q x)=0:=fun q=>by
   rw[rk];intro x g t;rw[ee,decide_eq_true_eq] at t;exact h ⟨x,g,t.1⟩
  simp[s]
theorem az.OP(T:az bx os)(f:bx.ok)(A:x∈os){N:List Ob}(c:∀y,y∈N ↔ Nb bx os y)(nd:N.Nodup) :
  (N.countP fun z=>decide (Up x z)&&decide (x.r<z.r))+(N.countP fun z=>decide (Up (af x) (af z))&&decide ((af z).l<(af x).l))+(if x.t=bx.t/\x.r=bx.r then 1 else 0)=1:=by
 have i:=T.aG x A;have wl:∀{o:Ob},o∈walls bx->o=wN bx\/o=wE bx\/o=wS bx\/o=wW bx:=fun {o} h=>by simpa[walls] using h
 have L:wN bx∈N:=(c _).mpr (.inr (by simp[walls]))
 have M:wE bx∈N:=(c _).mpr (.inr (by simp[walls]))
 have P:∀a∈N,∀b∈N,(decide (Up x a)&&decide (x.r<a.r))=true->(decide (Up x b)&&decide (x.r<b.r))=true->a=b:=fun a e b k d j=>by
  simp at d j;have E:=Nb.ok T f ((c a).mp e);have ob:=Nb.ok T f ((c b).mp k);refine (Nb.ap T f ((c a).mp e) ((c b).mp k)).resolve_right fun q=>?_
  unfold Apart at q;delta Up at d j;omega
 have Q:∀a∈N,∀b∈N,(decide (Up (af x) (af a))&&decide ((af a).l<(af x).l))=true->(decide (Up (af x) (af b))&&decide ((af b).l<(af x).l))=true->a=b:=fun a e b k d j=>by
  simp at d j;have E:=Nb.ok T f ((c a).mp e);have ob:=Nb.ok T f ((c b).mp k);refine (Nb.ap T f ((c a).mp e) ((c b).mp k)).resolve_right fun q=>?_
  unfold Apart at q;delta Up at d j;simp only[af] at d j;omega
 obtain⟨n,B,un,W⟩:∃n∈N,Up x n/\x.r<=n.r:=by
  by_cases R:x.t<bx.t
  ·obtain⟨y,F,G,k1,k2⟩:=T.cover A R (p:=x.r-1) (by omega) (by lia)
   exact⟨y,(c y).mpr (.inl F),G,by lia⟩
  ·exact⟨wN bx,L,by delta Up wN;dsimp only;omega,by simp only[wN];omega⟩
 obtain⟨m,hm,g,em⟩:∃m∈N,Up (af x) (af m)/\x.t<=m.t:=by
  by_cases R:x.r<bx.r
  ·obtain⟨y',S,G,k1,k2⟩:=T.turn.cover (bg.mpr ⟨x,A,rfl⟩) (by simp only[af];omega) (p:=(af x).l) (by lia) (by simp only[af];omega)
   obtain⟨y,F,rfl⟩:=bg.mp S;exact⟨y,(c y).mpr (.inl F),G,by simp only[af] at k1;lia⟩
  ·exact⟨wE bx,M,by unfold Up;simp only[af,wE];omega,by simp only[wE];omega⟩
 have U:∀{q:Ob->Bool},(∃a∈N,q a=true)->(∀a∈N,∀b∈N,q a=true->q b=true->a=b)->N.countP q=1:=fun ex un=>mM nd ex un
 have c0:∀{q:Ob->Bool},(∀a∈N,q a≠true)->N.countP q=0:=fun h=>rk.mpr h
 have C:∀a∈N,(decide (Up x a)&&decide (x.r<a.r))=true->a=n:=fun a e d=>by
  simp at d;have E:=Nb.ok T f ((c a).mp e);have ob:=Nb.ok T f ((c n).mp B);refine (Nb.ap T f ((c a).mp e) ((c n).mp B)).resolve_right fun q=>?_
  unfold Apart at q;delta Up at d un;omega
 have D:∀a∈N,(decide (Up (af x) (af a))&&decide ((af a).l<(af x).l))=true->a=m:=fun a e d=>by
  simp at d;have E:=Nb.ok T f ((c a).mp e);have ob:=Nb.ok T f ((c m).mp hm);refine (Nb.ap T f ((c a).mp e) ((c m).mp hm)).resolve_right fun q=>?_
  unfold Apart at q;delta Up at d g;simp only[af] at d g;omega
 have s:x.r<n.r->(N.countP fun z=>decide (Up x z)&&decide (x.r<z.r))=1:=fun h=>U ⟨n,B,by simp[un,h]⟩ P
 have u:¬x.r<n.r->(N.countP fun z=>decide (Up x z)&&decide (x.r<z.r))=0:=fun h=>c0 fun a e d=>by
  have:=C a e d;subst this;simp only[ee,decide_eq_true_eq] at d;exact h d.2
 have v:x.t<m.t->(N.countP fun z=>decide (Up (af x) (af z))&&decide ((af z).l<(af x).l))=1:=fun h=>U ⟨m,hm,by simp only[ee,decide_eq_true_eq];exact⟨g,by simp only[af];omega⟩⟩ Q
 have w:¬x.t<m.t->(N.countP fun z=>decide (Up (af x) (af z))&&decide ((af z).l<(af x).l))=0:=fun h=>c0 fun a e d=>by
  have:=D a e d;subst this;simp only[ee,decide_eq_true_eq] at d;have:=d.2;simp only[af] at this
  lia
 rcases (c n).mp B with H|wn<;>rcases (c m).mp hm with I|V
 ·have X:=T.aG n H;have Y:=T.aG m I;rw[if_neg (by unfold Up at un;omega)]
  rcases T.tee A H I un W g em with⟨a,b⟩|⟨a,b⟩
  ·rw[s a,w (by lia)]
  ·rw[u (by lia),v b]
 ·have X:=T.aG n H;obtain⟨rfl,J⟩:=lS V i g;have K:=un.1;rw[u (by omega),v (by have:=g.2.1;dsimp only[af,wE] at this ⊢;omega),if_neg (by omega)]
 ·have Y:=T.aG m I;obtain⟨rfl,J⟩:=ke wn i un;have K:m.l=x.r:=g.1;rw[s (by have:=un.2.2;dsimp only[wN] at this ⊢;omega),w (by omega),if_neg (by omega)]
 ·obtain⟨rfl,K⟩:=ke wn i un;obtain⟨rfl,J⟩:=lS V i g;rw[u (by dsimp only[wN];omega),w (by dsimp only[wE];omega),if_pos ⟨K,J⟩]
def nf(k:Nat)(z x:Ob):Bool:=decide (Up (aa k z) (aa k x))&&decide ((aa k z).l<(aa k x).l)
def nl(k:Nat)(z x:Ob):Bool:=decide (Up (aa k z) (aa k x))&&decide ((aa k x).r<(aa k z).r)
def on(k:Nat)(z x:Ob):Bool:=decide (Up (aa k z) (aa k x))
theorem wc(z x:Ob):Up z x ↔ Up (af (af x)) (af (af z)):=by
 delta Up;simp[af]
 lia
noncomputable def ex(k:Nat)(x z:Ob):Bool:=decide (Up (aa k x) (aa k z))&&decide ((aa k x).r<(aa k z).r)
def st(k:Nat)(x z:Ob):Bool:=decide (Up (aa k x) (aa k z))&&decide ((aa k z).l<(aa k x).l)
theorem ML(z x:Ob):nf 0 z x=ex 2 x z:=by
 delta nf ex;simp[show decide (Up (aa 0 z) (aa 0 x))=decide (Up (aa 2 x) (aa 2 z)) from decide_eq_decide.mpr (wc z x)]
 congr 1;refine decide_eq_decide.mpr ?_;dsimp only[aa,af]
 lia
theorem Hr(z x:Ob):nl 0 z x=st 2 x z:=by
 delta nl st;simp[show decide (Up (aa 0 z) (aa 0 x))=decide (Up (aa 2 x) (aa 2 z)) from decide_eq_decide.mpr (wc z x)]
 congr 1;refine decide_eq_decide.mpr ?_;dsimp only[aa,af]
 lia
theorem nU(k:Nat)(o:Ob):aa (k+4) o=aa k o:=mI (aa k o)
theorem lx(j:Nat):∀(k:Nat) (o:Ob),aa (j+k) o=aa k (aa j o)
 | 0,_=>rfl
 | k+1,o=>by
  show af (aa (j+k) o)=af (aa k (aa j o));rw[lx j k o]
theorem Ji(k:Nat)(z x:Ob):nf k z x=ex (k+2) x z:=by
 have:=ML (aa k z) (aa k x);assumption
theorem HC(k:Nat)(z x:Ob):nl k z x=st (k+2) x z:=by
 have:=Hr (aa k z) (aa k x);assumption
theorem Q3(k:Nat)(x z:Ob):ex (k+4) x z=ex k x z:=by unfold ex;rw[nU,nU]
theorem qz(k:Nat)(x z:Ob):st (k+4) x z=st k x z:=by unfold st;rw[nU,nU]
theorem sV(k:Nat){l:List Ob}(h:l.Nodup):(l.map (aa k)).Nodup:=gj.mpr (h.imp fun a e=>a (g8 k e))
theorem az.QB(T:az bx os)(a:bx.ok)(nd:os.Nodup)(b:Nb bx os z)(k:Nat):os.countP (nf k z)=os.countP (nl k z):=by
 have:=(T.turns k).firsts (kE k a) (sV k nd) ((pS k).mpr b);simp at this;exact this
theorem az.corner(T:az bx os)(a:bx.ok)(b:x∈os)(nd:(os++walls bx).Nodup){k:Nat}(c:k<4) :
  (os++walls bx).countP (fun z=>decide (Up (aa k x) (aa k z))&&decide ((aa k x).r<(aa k z).r))+(os++walls bx).countP (fun z=>decide (Up (aa (k+1) x) (aa (k+1) z))&&decide ((aa (k+1) z).l<(aa (k+1) x).l))+(if (aa k x).t=(aa k bx).t/\(aa k x).r=(aa k bx).r then 1 else 0)=1:=by
 have:=(T.turns k).OP (kE k a) (bg.mpr ⟨x,b,rfl⟩) (fun y=>by
  obtain⟨z,rfl⟩:=uZ k c y;rw[pS,bg];constructor
  ·rintro⟨w,hw,e⟩;simp only[g8 k e] at hw;exact et.mp hw
  ·exact fun h=>⟨z,et.mpr h,rfl⟩) (sV k nd)
 simp only[p6] at this;exact this
theorem az.outer(T:az bx os)(h:bx.ok)(nd:os.Nodup)(k:Nat):aA (fun x=>if (aa k x).t=(aa k bx).t/\(aa k x).r=(aa k bx).r then 1 else 0) os=1:=by
 have c:=T.turns k;have f:=kE k h;have e:aA (fun x=>if (aa k x).t=(aa k bx).t/\(aa k x).r=(aa k bx).r then 1 else 0) os=os.countP fun x=>decide ((aa k x).t=(aa k bx).t/\(aa k x).r=(aa k bx).r):=by
  rw[<-uQ];exact cJ fun a _=>by simp
 rw[e];unfold Ob.ok at f;refine mM nd ?_ ?_
 ·obtain⟨o,ho,k1,k2,k3,k4⟩:=c.hit ((aa k bx).r-1) ((aa k bx).t-1) (by lia) (by lia) (by lia) (by lia)
  obtain⟨a,d,rfl⟩:=bg.mp ho;have:=c.aG _ ho;exact⟨a,d,by rw[decide_eq_true_eq];lia⟩
 ·intro a d b g i j;have ja:=c.aG _ (bg.mpr ⟨a,d,rfl⟩);have jb:=c.aG _ (bg.mpr ⟨b,g,rfl⟩);refine g8 k ((c.ap _ (bg.mpr ⟨a,d,rfl⟩) _ (bg.mpr ⟨b,g,rfl⟩)).resolve_right fun q=>?_)
  unfold Apart at q;lia
noncomputable def bQ(f:Nat->Nat):Nat:=f 0+f 1+f 2+f 3
theorem xB{α:Type}(f:Nat->α->Nat)(l:List α):aA (fun a=>bQ fun k=>f k a) l=bQ fun k=>aA (f k) l:=by
 delta bQ;simp[hV]
theorem az.pairs(T:az bx os)(i:bx.ok)(nd:(os++walls bx).Nodup):2*aA (fun z=>bQ fun k=>os.countP (nf k z)) (os++walls bx)+4=4*os.length:=by
 have e:=(iR.mp nd).1;have b:∀k,aA (fun z=>os.countP (nf k z)) (os++walls bx)=aA (fun x=>(os++walls bx).countP (ex (k+2) x)) os:=fun k=>by
  rw[rO];refine cJ fun x _=>?_
  congr 1;funext z;exact Ji k z x
 have d:∀k,aA (fun z=>os.countP (nf k z)) (os++walls bx)=aA (fun x=>(os++walls bx).countP (st (k+2) x)) os:=fun k=>by
  rw[cJ (g:=fun z=>os.countP (nl k z)) fun z p=>T.QB i e (et.mp p) k,rO]
  refine cJ fun x _=>?_
  congr 1;funext z;exact HC k z x
 have o:∀k x,(os++walls bx).countP (ex (k+4) x)=(os++walls bx).countP (ex k x):=fun k x=>by
  congr 1;funext z;exact Q3 k x z
 have j:∀k x,(os++walls bx).countP (st (k+4) x)=(os++walls bx).countP (st k x):=fun k x=>by
  congr 1;funext z;exact qz k x z
 have c:∀k,k<4->aA (fun x=>(os++walls bx).countP (ex k x)) os+aA (fun x=>(os++walls bx).countP (st (k+1) x)) os+1=os.length:=fun k s=>by
  have a:=cJ (l:=os) (f:=fun x=>(os++walls bx).countP (ex k x)+(os++walls bx).countP (st (k+1) x)+(if (aa k x).t=(aa k bx).t/\(aa k x).r=(aa k bx).r then 1 else 0)) (g:=fun _=>1) fun x u=>T.corner i u nd s
  simp only[hV,pJ,T.outer i e k,Nat.one_mul] at a;exact a
 have c1:=c 1 (by decide)
 have v:=c 3 (by decide)
 have a1:=b 1;have w:=b 2;have A:=b 3;have b0:=d 0;have B:=d 2;rw[cJ fun x _=>o 0 x] at w
 rw[cJ (g:=fun x=>(os++walls bx).countP (ex 1 x)) fun x _=>o 1 x] at A
 rw[cJ (g:=fun x=>(os++walls bx).countP (st 0 x)) fun x _=>j 0 x] at B
 rw[cJ (g:=fun x=>(os++walls bx).countP (st 0 x)) fun x _=>j 0 x] at v
 rw[xB];dsimp only[bQ];have z1:∀q,aA (fun x=>(os++walls bx).countP (st (1+2) x)) os=q->aA (fun x=>(os++walls bx).countP (st 3 x)) os=q:=fun q h=>h
 lia
theorem az.JF(T:az bx os)(c:bx.ok)(nd:os.Nodup)(d:Nb bx os z)(h:∃x∈os,Up z x):(os.countP fun x=>decide (Up z x))=(os.countP fun x=>decide (Up z x)&&decide (z.l<x.l))+1:=by
 obtain⟨x,j,u⟩:=h;have k:=Nb.ok T c d;rw[hU (fun x=>decide (Up z x)) (fun x=>decide (z.l<x.l)) os]
 congr 1;refine mM nd ?_ ?_
 ·obtain⟨y,o,r,k1,k2⟩:=T.xl c d j u (by lia) k.1
  exact⟨y,o,by simp[r];omega⟩
 ·intro a e b f g i;simp at g i;have ja:=T.aG a e;have jb:=T.aG b f;refine (T.ap a e b f).resolve_right fun q=>?_
  unfold Apart at q;delta Up at g i;omega
theorem az.Mm(T:az bx os)(a:bx.ok)(nd:os.Nodup)(b:Nb bx os z)(k:Nat)(h:∃x∈os,on k z x=true):os.countP (on k z)=os.countP (nf k z)+1:=by
 have:=(T.turns k).JF (kE k a) (sV k nd) ((pS k).mpr b) (by
  obtain⟨x,c,u⟩:=h;exact⟨aa k x,bg.mpr ⟨x,c,rfl⟩,of_decide_eq_true u⟩)
 simp at this;exact this
theorem GN{k:Nat}(h:∀x∈os,on k z x=false):os.countP (on k z)=0/\os.countP (nf k z)=0:=by
 constructor
 ·rw[rk];intro x a e;rw[h x a] at e;contradiction
 ·rw[rk];intro x a e;have:nf k z x=(on k z x&&decide ((aa k z).l<(aa k x).l)):=rfl;rw[this,h x a] at e;contradiction
theorem az.MW(T:az bx os)(q:bx.ok)(nd:os.Nodup)(s:z∈walls bx):bQ (fun k=>os.countP (on k z))=bQ (fun k=>os.countP (nf k z))+1:=by
 have wl:z=wN bx\/z=wE bx\/z=wS bx\/z=wW bx:=by simpa[walls] using s
 have v:=q;unfold Ob.ok at v;obtain⟨a,d,a1,a2,a3,a4⟩:=T.hit bx.l bx.b (by lia) (by lia) (by lia) (by lia)
 obtain⟨b,e,b1,b2,b3,b4⟩:=T.hit (bx.r-1) (bx.t-1) (by lia) (by lia) (by lia) (by lia)
 have ja:=T.aG a d;have jb:=T.aG b e;have no:∀k,(∀x,(bx.l<=x.l/\x.l<x.r/\x.r<=bx.r/\bx.b<=x.b/\x.b<x.t/\x.t<=bx.t)->¬Up (aa k z) (aa k x))->os.countP (on k z)=0/\os.countP (nf k z)=0:=fun k h=>GN fun x f=>decide_eq_false (h x (T.aG x f))
 have c:∀k,(∃x∈os,Up (aa k z) (aa k x))->os.countP (on k z)=os.countP (nf k z)+1:=fun k ⟨x,f,u⟩=>T.Mm q nd (.inr s) k ⟨x,f,decide_eq_true u⟩
 delta bQ;dsimp only
 rcases wl with rfl|rfl|rfl|rfl
 ·have g:=no 0 (fun x i u=>by simp only[aa,af,Up,wN] at u;omega)
  have j:=no 1 (fun x i u=>by simp only[aa,af,Up,wN] at u;omega)
  have o:=no 3 (fun x i u=>by simp only[aa,af,Up,wN] at u;omega)
  have p:=c 2 ⟨b,e,by simp only[aa,af,Up,wN];omega⟩
  lia
 ·have g:=no 0 (fun x i u=>by simp only[aa,af,Up,wE] at u;omega)
  have j:=no 1 (fun x i u=>by simp only[aa,af,Up,wE] at u;omega)
  have p:=no 2 (fun x i u=>by simp only[aa,af,Up,wE] at u;omega)
  have o:=c 3 ⟨b,e,by simp only[aa,af,Up,wE];omega⟩
  lia
 ·have j:=no 1 (fun x i u=>by simp only[aa,af,Up,wS] at u;omega)
  have p:=no 2 (fun x i u=>by simp only[aa,af,Up,wS] at u;omega)
  have o:=no 3 (fun x i u=>by simp only[aa,af,Up,wS] at u;omega)
  have g:=c 0 ⟨a,d,by simp only[aa,af,Up,wS];omega⟩
  lia
 ·have g:=no 0 (fun x i u=>by simp only[aa,af,Up,wW] at u;omega)
  have p:=no 2 (fun x i u=>by simp only[aa,af,Up,wW] at u;omega)
  have o:=no 3 (fun x i u=>by simp only[aa,af,Up,wW] at u;omega)
  have j:=c 1 ⟨a,d,by simp only[aa,af,Up,wW];omega⟩
  lia
theorem az.sS(T:az bx os)(c:bx.ok)(f:x∈os)(nd:(os++walls bx).Nodup){k:Nat}(s:k<4):(os++walls bx).countP (on k x)=os.countP (nf k x)+1:=by
 obtain⟨ne,_,u,_⟩:=T.chain c f nd s;have sp:=hU (on k x) (fun z=>decide ((aa k x).l<(aa k z).l)) (os++walls bx)
 have v:((os++walls bx).countP fun a=>on k x a&&!decide ((aa k x).l<(aa k a).l))=1:=by
  refine mM nd ?_ ?_
  ·obtain⟨a,d⟩:∃a,(bz (os++walls bx) x k)[0]?=some a:=⟨_,cA (pB.mpr ne)⟩;have hm:=gA.mp (eR d);have:=u a d;refine⟨a,hm.1,?_⟩;delta on;simp;exact⟨hm.2,by lia⟩
  ·intro a d b o g h;unfold on at g h;simp at g h;have oa:=lO k (Nb.ok T c (et.mp d));have ob:=lO k (Nb.ok T c (et.mp o));refine g8 k ((BD k (Nb.ap T c (et.mp d) (et.mp o))).resolve_right fun q=>?_)
   unfold Apart at q;delta Up at g h;omega
 have A:((os++walls bx).countP fun a=>on k x a&&decide ((aa k x).l<(aa k a).l))=os.countP (nf k x):=by
  rw[n5];have:((walls bx).countP fun a=>on k x a&&decide ((aa k x).l<(aa k a).l))=0:=by
   rw[rk];intro w hw e;delta on at e;simp at e;have i:=(T.turns k).aG _ (bg.mpr ⟨x,f,rfl⟩);have j:=qK hw k;have j:aa k w=wN (aa k bx)\/aa k w=wE (aa k bx)\/aa k w=wS (aa k bx)\/aa k w=wW (aa k bx):=by simpa[walls] using j
   delta Up at e
   rcases j with q|q|q|q<;>rw[q] at e<;>simp only[wN,wE,wS,wW] at e<;>omega
  rw[this];rfl
 simp only[sp,v,A]
theorem CS(z x:Ob)(k:Nat):on k z x=on (k+2) x z:=by
 exact decide_eq_decide.mpr (wc _ _)
theorem Az(k:Nat)(z x:Ob):on (k+4) z x=on k z x:=by unfold on;rw[nU,nU]
theorem P0(l:List Ob)(x:Ob):bQ (fun k=>l.countP fun z=>on k z x)=bQ fun k=>l.countP (on k x):=by
 have e:∀k,(l.countP fun z=>on k z x)=l.countP (on (k+2) x):=fun k=>by
  congr 1;funext z;exact CS z x k
 have f:∀k,l.countP (on (k+4) x)=l.countP (on k x):=fun k=>by
  congr 1;funext z;exact Az k x z
 delta bQ;grind
theorem az.ties(T:az bx os)(a:bx.ok)(nd:(os++walls bx).Nodup):aA (fun x=>bQ fun k=>os.countP (on k x)) os+2*aA (fun x=>bQ fun k=>(walls bx).countP (on k x)) os=6*os.length+2:=by
 have c:=(iR.mp nd).1;have p:=T.pairs a nd;rw[sR] at p;have w1:aA (fun z=>bQ fun k=>os.countP (on k z)) (walls bx)=aA (fun z=>bQ fun k=>os.countP (nf k z)) (walls bx)+4:=by
  simp only[cJ (g:=fun z=>(bQ fun k=>os.countP (nf k z))+1) fun z d=>T.MW a c d,hV]
  rfl
 have w2:aA (fun z=>bQ fun k=>os.countP (on k z)) (walls bx)=aA (fun x=>bQ fun k=>(walls bx).countP (on k x)) os:=by
  rw[xB];have:∀k,aA (fun z=>os.countP (on k z)) (walls bx)=aA (fun x=>(walls bx).countP fun z=>on k z x) os:=fun k=>rO _ _ _
  rw[show (bQ fun k=>aA (fun z=>os.countP (on k z)) (walls bx))=bQ fun k=>aA (fun x=>(walls bx).countP fun z=>on k z x) os from congrArg bQ (funext this),<-xB]
  exact cJ fun x _=>P0 _ x
 have r1:aA (fun x=>bQ fun k=>(os++walls bx).countP (on k x)) os=aA (fun x=>bQ fun k=>os.countP (nf k x)) os+4*os.length:=by
  rw[cJ (g:=fun x=>(bQ fun k=>os.countP (nf k x))+4) fun x b=>by
   delta bQ;simp only[T.sS a b nd (k:=0) (by decide),T.sS a b nd (k:=1) (by decide),T.sS a b nd (k:=2) (by decide),T.sS a b nd (k:=3) (by decide)]
   lia,hV,pJ]
 have r2:aA (fun x=>bQ fun k=>(os++walls bx).countP (on k x)) os=aA (fun x=>bQ fun k=>os.countP (on k x)) os+aA (fun x=>bQ fun k=>(walls bx).countP (on k x)) os:=by
  rw[<-hV];refine cJ fun x _=>?_
  delta bQ;simp
  lia
 lia
noncomputable def dB{α:Type}(l:List α):List (α×α):=l.zip (l.drop 1++l.take 1)
theorem AI(l:List α){i:Nat}(h:i<l.length):(l.drop 1++l.take 1)[i]?=l[(i+1)%l.length]?:=by
 by_cases a:i+1<l.length
 ·rw[kq (by rw[se];omega),Y6,qp a,YA]
 ·have e:i+1=l.length:=by omega
  rw[lz (by rw[se];omega),e,UZ,se,show i-(l.length-1)=0 from by omega]
  simp
theorem uG(l:List α):(l.drop 1++l.take 1).length=l.length:=by
 simp
 lia
theorem zA{l:List α}{n m:α}:(n,m)∈dB l ↔ a8 l n m:=by
 delta dB a8;constructor
 ·intro h;obtain⟨i,a,e⟩:=qt h;have hl:i<l.length:=by
   rw[ZM,uG] at a
   lia
  have e:(l.zip (l.drop 1++l.take 1))[i]?=some (n,m):=by rw[cA a,e]
  rw[VY] at e;exact⟨i,e.1,by rw[<-AI l hl];exact e.2⟩
 ·rintro⟨i,b,c⟩;have hl:=(bt.mp b).1;refine eR (i:=i) ?_;rw[VY];exact⟨b,by rw[AI l hl];exact c⟩
theorem ue(l:List α):(dB l).map (·.1)=l:=by
 exact List.map_fst_zip (by rw[uG];exact eB _)
theorem FN(l:List α):(dB l).map (·.2)=l.drop 1++l.take 1:=by
 exact Zx (by rw[uG];exact eB _)
theorem Ck(l:List α):(dB l).length=l.length:=by
 have:=congrArg List.length (ue l);simp_all
theorem Iw(l:List α):(l.drop 1++l.take 1).Perm l:=List.perm_append_comm.trans (by rw[UK])
end
structure gG {α:Type}(rooms walls:List α) (ring:α->List α):Prop where
 jD:rooms.Nodup
 fH:∀x∈rooms,x∉walls
 nd:∀x∈rooms,(ring x).Nodup
 len:∀x∈rooms,3<=(ring x).length
 mem:∀x∈rooms,∀y∈ring x,y∈rooms\/y∈walls
 fM:∀x∈rooms,x∉ring x
 sym:∀x∈rooms,∀y∈rooms,y∈ring x->x∈ring y
 jT:∀x∈rooms,∀n m,a8 (ring x) n m->n∈rooms->a8 (ring n) m x
 j2:∀x∈rooms,∀n m,a8 (ring x) n m->m∈rooms->a8 (ring m) x n
structure Order {α:Type}(lt:α->α->Bool):Prop where
 fM:∀a,lt a a=false
 tr:∀a b c,lt a b=true->lt b c=true->lt a c=true
 cS:∀a b,a≠b->lt a b=true\/lt b a=true
section
variable{α:Type}{rooms walls:List α}{ring:α->List α}
theorem a8.mem{l:List α}{n m:α}(h:a8 l n m):n∈l/\m∈l:=by
 obtain⟨i,a,b⟩:=h;exact⟨eR a,eR b⟩
theorem pF{l:List α}(nd:l.Nodup){i j:Nat}{a:α}(f:l[i]?=some a)(g:l[j]?=some a):i=j:=by
 obtain⟨b,c⟩:=bt.mp f;obtain⟨d,e⟩:=bt.mp g
 rcases Nat.lt_trichotomy i j with h|h|h
 ·have:=oy.mp nd i j b d h;rw[c,e] at this;exact absurd rfl this
 ·exact h
 ·have:=oy.mp nd j i d b h;simp only[c,e] at this;exact absurd rfl this
theorem a8.ne{l:List α}(nd:l.Nodup)(hl:3<=l.length){n m:α}(h:a8 l n m):n≠m:=by
 rintro rfl;obtain⟨i,a,b⟩:=h;have hi:=(bt.mp a).1;have:=pF nd a b
 by_cases c:i+1<l.length
 ·rw[qp c] at this
  lia
 ·rw[show i+1=l.length from by lia,UZ] at this
  lia
theorem a8.asymm{l:List α}(nd:l.Nodup)(hl:3<=l.length){n m:α}(h:a8 l n m)(h':a8 l m n):False:=by
 obtain⟨i,b,g⟩:=h;obtain⟨j,c,k⟩:=h';have o:=(bt.mp b).1;have p:=(bt.mp c).1;have d:=pF nd c g;have e:=pF nd b k;have f:∀a,a<l.length->(a+1)%l.length=if a+1=l.length then 0 else a+1:=fun a ha=>by
  split
  ·rename_i h;rw[h,UZ]
  ·exact qp (by lia)
 rw[f i o] at d;rw[f j p] at e;split at d<;>split at e<;>lia
def corners(rooms:List α)(ring:α->List α):List (α×α×α):=rooms.flatMap fun x=>(dB (ring x)).map fun p=>(x,p.1,p.2)
theorem fh{x n m:α}:(x,n,m)∈corners rooms ring ↔ x∈rooms/\a8 (ring x) n m:=by
 delta corners;rw[Wb];constructor
 ·rintro⟨y,a,h⟩;obtain⟨p,b,e⟩:=bg.mp h;cases e;exact⟨a,zA.mp b⟩
 ·rintro⟨c,h⟩;exact⟨x,c,bg.mpr ⟨(n,m),zA.mpr h,rfl⟩⟩
theorem wM{a c:Type}(f:a->List c)(p:c->Bool):∀l:List a,(l.flatMap f).countP p=aA (fun b=>(f b).countP p) l
 | []=>rfl
 | b::l=>by
  simp[wM f p l];rfl
theorem lV(C:gG rooms walls ring):(corners rooms ring).Nodup:=by
 have key:∀l:List α,l.Nodup->(∀x∈l,(ring x).Nodup)->(corners l ring).Nodup:=by
  intro l;induction l with
  | nil=>intro _ _;exact z8
  | cons a l g =>
   intro c d;rw[me] at c;have e:corners (a::l) ring=((dB (ring a)).map fun p=>(a,p.1,p.2))++corners l ring:=by unfold corners;simp
   rw[e,iR];refine⟨?_,g c.2 fun x h=>d x (by simp[h]),?_⟩
   ·have i:(dB (ring a)).Nodup:=by
     have:=d a (by simp)
     rw[<-ue (ring a)] at this;exact (gj.mp this).imp fun b e=>b (by rw[e])
    refine gj.mpr (i.imp fun b e=>b ?_)
    simp at e;exact ZS e.1 e.2
   ·rintro⟨x,n,m⟩ j ⟨x',n',m'⟩ f e;cases e;obtain⟨p,_,e⟩:=bg.mp j;cases e;exact c.1 (fh.mp f).1
 exact key rooms C.jD C.nd
theorem count_map{c:Type}{l d:List c}(nd:l.Nodup)(f:d.Nodup){g:c->c}(inj:∀a∈l,∀b∈l,g a=g b->a=b)(h:∀b,b∈d ↔ ∃a∈l,g a=b)(p:c->Bool):d.countP p=l.countP fun a=>p (g a):=by
 have pm:d.Perm (l.map g):=(p8 f (gj.mpr (nd.imp_of_mem fun j k i e=>i (inj _ j _ k e)))).mpr fun b=>by
  rw[h b,bg]
 rw[pm.countP_eq,p6];rfl
end
section
variable{α:Type}[DecidableEq α]{rooms walls:List α}{ring:α->List α}{lt:α->α->Bool}
noncomputable def ao(rooms:List α)(a:α):Bool:=decide (a∈rooms)
def canon(rooms:List α)(lt:α->α->Bool)(c:α×α×α):Bool:=(!ao rooms c.2.1||lt c.1 c.2.1)&&(!ao rooms c.2.2||lt c.1 c.2.2)
noncomputable def g3(c:α×α×α):α×α×α:=(c.2.1,c.2.2,c.1)
theorem uv{a b:α×α×α}(h:g3 a=g3 b):a=b:=by
 obtain⟨x,n,m⟩:=a;obtain⟨x',n',m'⟩:=b;simp[g3] at h;simp_all
theorem yS{f:Type}{p q s:f->Bool}:∀{l:List f},(∀a∈l,(p a=true/\q a=false/\s a=false)\/(p a=false/\q a=true/\s a=false)\/(p a=false/\q a=false/\s a=true))->l.countP p+l.countP q+l.countP s=l.length
 | [],_=>rfl
 | a::l,h=>by
  have:=yS (l:=l) fun b g=>h b (by simp[g])
  simp[nk]
  rcases h a (by simp) with⟨c,d,e⟩|⟨c,d,e⟩|⟨c,d,e⟩<;>rw[c,d,e]<;>simp<;>lia
theorem zJ{c:Type}{p q:c->Bool}:∀{l:List c},(∀a∈l,(p a=true/\q a=false)\/(p a=false/\q a=true))->l.countP p+l.countP q=l.length
 | [],_=>rfl
 | a::l,h=>by
  have:=zJ (l:=l) fun b f=>h b (by simp[f])
  simp[nk]
  rcases h a (by simp) with⟨d,e⟩|⟨d,e⟩<;>rw[d,e]<;>simp<;>lia
theorem Order.jj(O:Order lt){a b:α}(h:lt a b=true):lt b a=false:=by
 cases e:lt b a with
 | false=>rfl
 | true =>
  have:=O.tr a b a h e;rw[O.fM] at this;cases this
theorem gG.apart(C:gG rooms walls ring){x n m:α}(a:x∈rooms)(h:a8 (ring x) n m):x≠n/\x≠m/\n≠m:=by
 have:=h.mem;exact⟨fun e=>C.fM x a (e ▸ this.1),fun e=>C.fM x a (e ▸ this.2),h.ne (C.nd x a) (C.len x a)⟩
theorem nc{b:Type}(p q:b->Bool)(l:List b):(l.filter p).countP q=l.countP fun a=>p a&&q a:=by
 rw[List.countP_filter];congr 1;funext a;rw[WR]
theorem gG.least(C:gG rooms walls ring)(O:Order lt):3*(corners rooms ring).countP (canon rooms lt)=aA (fun x=>(ring x).countP (ao rooms)) rooms+2*aA (fun x=>(ring x).countP fun y=>!ao rooms y) rooms+(corners rooms ring).countP fun c=>!ao rooms c.2.1&&!ao rooms c.2.2:=by
 have k:=lV C;generalize o:corners rooms ring=cs at *;have mem:∀{x n m:α},(x,n,m)∈cs ↔ x∈rooms/\a8 (ring x) n m:=fun {x n m}=>by rw[<-o];exact fh
 have I:∀p:α->Bool,(cs.countP fun c=>p c.2.1)=aA (fun x=>(ring x).countP p) rooms:=fun p=>by
  rw[<-o];delta corners;rw[wM];refine cJ fun x _=>?_
  rw[p6];have:=congrArg (YJ p) (ue (ring x));rw[p6] at this;exact this
 have D:∀p:α->Bool,(cs.countP fun c=>p c.2.2)=aA (fun x=>(ring x).countP p) rooms:=fun p=>by
  rw[<-o];delta corners;rw[wM];refine cJ fun x _=>?_
  rw[p6];have:=congrArg (YJ p) (FN (ring x));simp only[p6,(Iw (ring x)).countP_eq] at this;exact this
 have a1:=hU (fun c:α×α×α=>ao rooms c.2.1) (fun c=>ao rooms c.2.2) cs
 have F:=hU (fun c:α×α×α=>!ao rooms c.2.2) (fun c=>ao rooms c.2.1) cs
 rw[I (ao rooms)] at a1;rw[D (fun y=>!ao rooms y)] at F
 have J:(cs.countP fun c=>ao rooms c.2.2&&ao rooms c.2.1)=cs.countP fun c=>ao rooms c.2.1&&ao rooms c.2.2:=by congr 1;funext c;exact WR _ _
 have K:(cs.countP fun c=>!ao rooms c.2.2&&ao rooms c.2.1)=cs.countP fun c=>ao rooms c.2.1&&!ao rooms c.2.2:=by congr 1;funext c;exact WR _ _
 have L:(cs.countP fun c=>!ao rooms c.2.2&&!ao rooms c.2.1)=cs.countP fun c=>!ao rooms c.2.1&&!ao rooms c.2.2:=by congr 1;funext c;exact WR _ _
 simp only[K,L] at F;have k1:=hU (canon rooms lt) (fun c=>ao rooms c.2.1) cs
 have k2:=hU (fun c=>canon rooms lt c&&ao rooms c.2.1) (fun c=>ao rooms c.2.2) cs
 have k3:=hU (fun c=>canon rooms lt c&&!ao rooms c.2.1) (fun c=>ao rooms c.2.2) cs
 have M:(cs.countP fun a=>canon rooms lt a&&ao rooms a.2.1&&ao rooms a.2.2)=cs.countP fun a=>(ao rooms a.2.1&&ao rooms a.2.2)&&(lt a.1 a.2.1&&lt a.1 a.2.2):=by
  congr 1;funext c;delta canon;cases ao rooms c.2.1<;>cases ao rooms c.2.2<;>simp
 have N:(cs.countP fun a=>canon rooms lt a&&ao rooms a.2.1&&!ao rooms a.2.2)=cs.countP fun a=>(ao rooms a.2.1&&!ao rooms a.2.2)&&lt a.1 a.2.1:=by
  congr 1;funext c;delta canon;cases ao rooms c.2.1<;>cases ao rooms c.2.2<;>simp
 have P:(cs.countP fun a=>canon rooms lt a&&!ao rooms a.2.1&&ao rooms a.2.2)=cs.countP fun a=>(!ao rooms a.2.1&&ao rooms a.2.2)&&lt a.1 a.2.2:=by
  congr 1;funext c;delta canon;cases ao rooms c.2.1<;>cases ao rooms c.2.2<;>simp
 have Q:(cs.countP fun a=>canon rooms lt a&&!ao rooms a.2.1&&!ao rooms a.2.2)=cs.countP fun a=>!ao rooms a.2.1&&!ao rooms a.2.2:=by
  congr 1;funext c;delta canon;cases ao rooms c.2.1<;>cases ao rooms c.2.2<;>simp
 simp only[M,N] at k2;simp only[P,Q] at k3;have S3:3*(cs.countP fun a=>(ao rooms a.2.1&&ao rooms a.2.2)&&(lt a.1 a.2.1&&lt a.1 a.2.2))=cs.countP fun c=>ao rooms c.2.1&&ao rooms c.2.2:=by
  have i:(cs.filter fun c=>ao rooms c.2.1&&ao rooms c.2.2).Nodup:=mu ri k
  have j:∀{x n m:α},(x,n,m)∈cs.filter (fun c=>ao rooms c.2.1&&ao rooms c.2.2) ↔ (x∈rooms/\a8 (ring x) n m)/\n∈rooms/\m∈rooms:=fun {x n m}=>by
   rw[gf,mem];dsimp only[ao];simp
  have r:∀b,b∈cs.filter (fun c=>ao rooms c.2.1&&ao rooms c.2.2) ↔ ∃a∈cs.filter (fun c=>ao rooms c.2.1&&ao rooms c.2.2),g3 a=b:=by
   rintro⟨x,n,m⟩;constructor
   ·intro h;obtain⟨⟨d,s⟩,f,hm⟩:=j.mp h;exact⟨(m,x,n),j.mpr ⟨⟨hm,C.j2 x d n m s hm⟩,d,f⟩,rfl⟩
   ·rintro⟨⟨R,S,T⟩,h,e⟩;cases e;obtain⟨⟨d,s⟩,f,hm⟩:=j.mp h;exact j.mpr ⟨⟨f,C.jT _ d _ _ s f⟩,hm,d⟩
  have t:=count_map i i (fun a _ b _ h=>uv h) r fun a=>lt a.1 a.2.1&&lt a.1 a.2.2
  have U:=count_map i i (fun a _ b _ h=>uv h) r fun a=>lt (g3 a).1 (g3 a).2.1&&lt (g3 a).1 (g3 a).2.2
  have z:=yS (p:=fun a=>lt a.1 a.2.1&&lt a.1 a.2.2) (q:=fun a=>lt (g3 a).1 (g3 a).2.1&&lt (g3 a).1 (g3 a).2.2) (s:=fun a=>lt (g3 (g3 a)).1 (g3 (g3 a)).2.1&&lt (g3 (g3 a)).1 (g3 (g3 a)).2.2) (by
   rintro⟨x,n,m⟩ h;obtain⟨⟨d,s⟩,f,hm⟩:=j.mp h;obtain⟨A,V,W⟩:=C.apart d s;show ((lt x n&&lt x m)=true/\(lt n m&&lt n x)=false/\(lt m x&&lt m n)=false)\/((lt x n&&lt x m)=false/\(lt n m&&lt n x)=true/\(lt m x&&lt m n)=false)\/((lt x n&&lt x m)=false/\(lt n m&&lt n x)=false/\(lt m x&&lt m n)=true)
   rcases O.cS x n A with g|g<;>rcases O.cS x m V with u|u<;>rcases O.cS n m W with v|v<;>have X:=O.jj g<;>have G:=O.jj u<;>have H:=O.jj v<;>simp[g,u,v,X,G,H]
   ·have:=O.tr x n m g v;rw[G] at this;cases this
   ·have:=O.tr n x m g u;rw[H] at this;cases this)
  simp only[<-U,<-t] at z;rw[<-tm] at z;rw[nc] at z
  lia
 have S2:(cs.countP fun a=>(ao rooms a.2.1&&!ao rooms a.2.2)&&lt a.1 a.2.1)+(cs.countP fun a=>(!ao rooms a.2.1&&ao rooms a.2.2)&&lt a.1 a.2.2)=cs.countP fun c=>ao rooms c.2.1&&!ao rooms c.2.2:=by
  have i:(cs.filter fun c=>ao rooms c.2.1&&!ao rooms c.2.2).Nodup:=mu ri k
  have B:(cs.filter fun c=>!ao rooms c.2.1&&ao rooms c.2.2).Nodup:=mu ri k
  have j:∀{x n m:α},(x,n,m)∈cs.filter (fun c=>ao rooms c.2.1&&!ao rooms c.2.2) ↔ (x∈rooms/\a8 (ring x) n m)/\n∈rooms/\m∉rooms:=fun {x n m}=>by
   rw[gf,mem];dsimp only[ao];simp
  have w:∀{x n m:α},(x,n,m)∈cs.filter (fun c=>!ao rooms c.2.1&&ao rooms c.2.2) ↔ (x∈rooms/\a8 (ring x) n m)/\n∉rooms/\m∈rooms:=fun {x n m}=>by
   rw[gf,mem];dsimp only[ao];simp
  have r:∀b,b∈cs.filter (fun c=>!ao rooms c.2.1&&ao rooms c.2.2) ↔ ∃a∈cs.filter (fun c=>ao rooms c.2.1&&!ao rooms c.2.2),g3 a=b:=by
   rintro⟨x,n,m⟩;constructor
   ·intro h;obtain⟨⟨d,s⟩,f,hm⟩:=w.mp h;exact⟨(m,x,n),j.mpr ⟨⟨hm,C.j2 x d n m s hm⟩,d,f⟩,rfl⟩
   ·rintro⟨⟨R,S,T⟩,h,e⟩;cases e;obtain⟨⟨d,s⟩,f,hm⟩:=j.mp h;exact w.mpr ⟨⟨f,C.jT _ d _ _ s f⟩,hm,d⟩
  have t:=count_map i B (fun a _ b _ h=>uv h) r fun a=>lt a.1 a.2.2
  simp[nc] at t;rw[t,<-nc,<-nc,tm (l:=cs)];refine zJ ?_;rintro⟨x,n,m⟩ h;obtain⟨⟨d,s⟩,f,hm⟩:=j.mp h;obtain⟨A,_,_⟩:=C.apart d s;show (lt x n=true/\lt n x=false)\/(lt x n=false/\lt n x=true)
  rcases O.cS x n A with g|g
  ·exact .inl ⟨g,O.jj g⟩
  ·exact .inr ⟨O.jj g,g⟩
 lia
theorem iM{x n m:α}:canon rooms lt (x,n,m)=true ↔ (n∈rooms->lt x n=true)/\(m∈rooms->lt x m=true):=by
 dsimp only[canon,ao]
 by_cases a:n∈rooms<;>by_cases b:m∈rooms<;>simp[a,b]
theorem Ff{a b c d:α}(h:[a,b].Perm [c,d]):(a=c/\b=d)\/(a=d/\b=c):=by
 have e:a=c\/a=d:=by simpa using h.mem_iff.mp (show a∈[a,b] by simp)
 rcases e with rfl|rfl
 ·simp_all
 ·have h':=h.trans (List.Perm.swap _ _ _);exact .inr ⟨rfl,by simpa using h'.cons_inv⟩
theorem gG.threes(C:gG rooms walls ring)(O:Order lt){B:Type}{key:α×α×α->B}(E:∀c∈corners rooms ring,∀b∈corners rooms ring,key c=key b ↔ [c.1,c.2.1,c.2.2].Perm [b.1,b.2.1,b.2.2]){D:List B}(nd:D.Nodup)(R:∀k,k∈D ↔ ∃c∈corners rooms ring,key c=k) :
  D.length=(corners rooms ring).countP (canon rooms lt):=by
 have F:=lV C;have inj:∀c∈(corners rooms ring).filter (canon rooms lt),∀b∈(corners rooms ring).filter (canon rooms lt),key c=key b->c=b:=by
  rintro⟨x,n,m⟩ h ⟨j,y,A⟩ h' e;obtain⟨d,hl⟩:=gf.mp h;obtain⟨v,G⟩:=gf.mp h';have p:=(E _ d _ v).mp e;obtain⟨g,s⟩:=fh.mp d;obtain⟨l,s'⟩:=fh.mp v;obtain⟨H,I⟩:=iM.mp hl;obtain⟨J,K⟩:=iM.mp G;have ex:x=j:=by
   have S:x=j\/x=y\/x=A:=by simpa using p.mem_iff.mp (show x∈[x,n,m] by simp)
   have L:j=x\/j=n\/j=m:=by simpa using p.mem_iff.mpr (show j∈[j,y,A] by simp)
   rcases S with h|h|h
   ·exact h
   ·have q:=J (h ▸ g);rw[<-h] at q
    rcases L with k|k|k
    ·exact k.symm
    ·have:=H (k ▸ l);rw[<-k,O.jj q] at this;contradiction
    ·have:=I (k ▸ l);rw[<-k,O.jj q] at this;contradiction
   ·have q:=K (h ▸ g);rw[<-h] at q
    rcases L with k|k|k
    ·exact k.symm
    ·have:=H (k ▸ l);rw[<-k,O.jj q] at this;contradiction
    ·have:=I (k ▸ l);rw[<-k,O.jj q] at this;contradiction
  subst ex
  rcases Ff (show [n,m].Perm [y,A] from p.cons_inv) with⟨rfl,rfl⟩|⟨rfl,rfl⟩
  ·rfl
  ·exact (s.asymm (C.nd x g) (C.len x g) s').elim
 have pm:D.Perm (((corners rooms ring).filter (canon rooms lt)).map key):=(p8 nd (gj.mpr ((mu ri F).imp_of_mem fun T U M e=>M (inj _ T _ U e)))).mpr fun k=>by
  rw[R k,bg];constructor
  ·rintro⟨⟨x,n,m⟩,d,rfl⟩;obtain⟨g,s⟩:=fh.mp d;obtain⟨N,P,V⟩:=C.apart g s;have put:∀b,b∈corners rooms ring->canon rooms lt b=true->[b.1,b.2.1,b.2.2].Perm [x,n,m]->∃a∈(corners rooms ring).filter (canon rooms lt),key a=key (x,n,m):=fun b Q W X=>⟨b,gf.mpr ⟨Q,W⟩,(E _ Q _ d).mpr X⟩
   have pn:=Wx (l₁:=[n,m]) (l₂:=[x]);have o:=Wx (l₁:=[m]) (l₂:=[x,n]);have w:n∈rooms->(n,m,x)∈corners rooms ring:=fun h=>fh.mpr ⟨h,C.jT x g n m s h⟩
   have r:m∈rooms->(m,x,n)∈corners rooms ring:=fun h=>fh.mpr ⟨h,C.j2 x g n m s h⟩
   by_cases t:n∈rooms<;>by_cases hm:m∈rooms
   ·rcases O.cS x n N with f|f
    ·rcases O.cS x m P with i|i
     ·exact put _ d (iM.mpr ⟨fun _=>f,fun _=>i⟩) (List.Perm.refl _)
     ·exact put _ (r hm) (iM.mpr ⟨fun _=>i,fun _=>O.tr m x n i f⟩) o
    ·rcases O.cS n m V with u|u
     ·exact put _ (w t) (iM.mpr ⟨fun _=>u,fun _=>f⟩) pn
     ·exact put _ (r hm) (iM.mpr ⟨fun _=>O.tr m n x u f,fun _=>u⟩) o
   ·rcases O.cS x n N with f|f
    ·exact put _ d (iM.mpr ⟨fun _=>f,fun z=>absurd z hm⟩) (List.Perm.refl _)
    ·exact put _ (w t) (iM.mpr ⟨fun z=>absurd z hm,fun _=>f⟩) pn
   ·rcases O.cS x m P with i|i
    ·exact put _ d (iM.mpr ⟨fun z=>absurd z t,fun _=>i⟩) (List.Perm.refl _)
    ·exact put _ (r hm) (iM.mpr ⟨fun _=>i,fun z=>absurd z t⟩) o
   ·exact put _ d (iM.mpr ⟨fun z=>absurd z t,fun z=>absurd z hm⟩) (List.Perm.refl _)
  ·rintro⟨c,d,rfl⟩;exact⟨c,(gf.mp d).1,rfl⟩
 rw[pm.length_eq,a7,tm]
end
section
variable{bx:Ob}{os:List Ob}{x n m:Ob}
theorem az.closed(T:az bx os)(b:bx.ok)(nd:(os++walls bx).Nodup):gG os (walls bx) (ba (os++walls bx)) where
 jD:=(iR.mp nd).1
 fH:=fun x a hw=>(iR.mp nd).2.2 x a x hw rfl
 nd:=fun x a=>T.Of b a nd
 len:=fun x a=>by
  have n1:=pB.mpr (T.chain b a nd (k:=1) (by decide)).1
  have n2:=pB.mpr (T.chain b a nd (k:=2) (by decide)).1
  have n3:=pB.mpr (T.chain b a nd (k:=3) (by decide)).1
  delta ba;simp only[eH,eH]
  lia
 mem:=fun x a y d=>et.mp (hX.mp d).1
 fM:=fun x a h=>by
  obtain⟨_,k,f,u⟩:=hX.mp h;have ox:=lO k (Nb.ok T b (.inl a));delta Up at u
  lia
 sym:=fun x a y d h=>by
  obtain⟨_,k,f,u⟩:=hX.mp h;have e:=CS x y k;have c:on (k+2) y x=true:=by rw[<-e];exact decide_eq_true u
  refine hX.mpr ⟨et.mpr (.inl a),?_⟩
  by_cases g:k+2<4
  ·exact⟨k+2,g,of_decide_eq_true c⟩
  ·have i:on (k+2) y x=on (k-2) y x:=by
    rw[show k+2=(k-2)+4 from by omega]
    exact Az _ _ _
   rw[i] at c;exact⟨k-2,by omega,of_decide_eq_true c⟩
 jT:=fun x a n m s j=>(T.zV b a nd s).1 j
 j2:=fun x a n m s hm=>(T.zV b a nd s).2 hm
theorem zB(N:List Ob)(x:Ob)(p:Ob->Bool):(ba N x).countP p=bQ fun k=>N.countP fun z=>on k x z&&p z:=by
 have e:∀k,(bz N x k).countP p=N.countP fun z=>on k x z&&p z:=fun k=>by
  delta bz;simp only[(hA _ _).countP_eq,nc];rfl
 dsimp only[ba,bQ];simp only[n5,e,e,e,e]
theorem az.Aq(T:az bx os)(hp:bx.ok)(nd:(os++walls bx).Nodup)(x:Ob):(ba (os++walls bx) x).countP (ao os)=bQ (fun k=>os.countP (on k x))/\((ba (os++walls bx) x).countP fun y=>!ao os y)=bQ fun k=>(walls bx).countP (on k x):=by
 have fH:∀w∈walls bx,w∉os:=fun w hw ho=>(iR.mp nd).2.2 w ho w hw rfl
 have a:∀k,((os++walls bx).countP fun z=>on k x z&&ao os z)=os.countP (on k x):=fun k=>by
  rw[n5];have d:(os.countP fun z=>on k x z&&ao os z)=os.countP (on k x):=yv fun z c=>by
   have:ao os z=true:=decide_eq_true c;simp only[this,Yb]
  have f:((walls bx).countP fun z=>on k x z&&ao os z)=0:=by
   rw[rk];intro w hw e;rw[ee] at e;exact fH w hw (of_decide_eq_true e.2)
  lia
 have b:∀k,((os++walls bx).countP fun z=>on k x z&&!ao os z)=(walls bx).countP (on k x):=fun k=>by
  rw[n5];have d:((walls bx).countP fun z=>on k x z&&!ao os z)=(walls bx).countP (on k x):=yv fun z c=>by
   have:ao os z=false:=decide_eq_false (fH z c);rw[this];simp
  have f:(os.countP fun z=>on k x z&&!ao os z)=0:=by
   rw[rk];intro w hw e;have:ao os w=true:=decide_eq_true hw;rw[this] at e;simp at e
  lia
 simp only[zB];exact⟨congrArg bQ (funext a),congrArg bQ (funext b)⟩
theorem az.sums(T:az bx os)(a:bx.ok)(nd:(os++walls bx).Nodup):aA (fun x=>(ba (os++walls bx) x).countP (ao os)) os+2*aA (fun x=>(ba (os++walls bx) x).countP fun y=>!ao os y) os=6*os.length+2:=by
 rw[cJ (g:=fun x=>bQ fun k=>os.countP (on k x)) fun x _=>(T.Aq a nd x).1,cJ (g:=fun x=>bQ fun k=>(walls bx).countP (on k x)) fun x _=>(T.Aq a nd x).2]
 exact T.ties a nd
theorem sy(hm:m∈walls bx)(i:bx.l<=x.l/\x.l<x.r/\x.r<=bx.r/\bx.b<=x.b/\x.b<x.t/\x.t<=bx.t)(u:Up (af (af x)) (af (af m))):m=wS bx/\x.b=bx.b:=by
 obtain⟨c,i2,d,i4,i5,i6⟩:=i;obtain⟨a,e,f⟩:=u;simp[walls] at hm
 rcases hm with rfl|rfl|rfl|rfl
 ·exact absurd (Xx.mp (show -(bx.t+1)=-x.b from a)) (by lia)
 ·exact absurd (VU.mp (e)) (Wu.mpr d)
 ·exact⟨rfl,(Xx.mp (a)).symm⟩
 ·exact absurd (VU.mp (f)) (Wu.mpr c)
theorem tD(hm:m∈walls bx)(i:bx.l<=x.l/\x.l<x.r/\x.r<=bx.r/\bx.b<=x.b/\x.b<x.t/\x.t<=bx.t)(u:Up (af (af (af x))) (af (af (af m)))):m=wW bx/\x.l=bx.l:=by
 obtain⟨i1,i2,i3,i4,i5,i6⟩:=i;obtain⟨a,c,d⟩:=u;dsimp only[af] at a c d;simp[walls] at hm
 rcases hm with rfl|rfl|rfl|rfl<;>dsimp only[wN,wE,wS,wW] at a c d
 ·omega
 ·omega
 ·omega
 ·grind
theorem az.jG(T:az bx os)(s:bx.ok)(u:x∈os)(i:n∈walls bx)(hm:m∈walls bx):cz x n m ↔ (n=wN bx/\m=wE bx/\x.t=bx.t/\x.r=bx.r)\/(n=wE bx/\m=wS bx/\x.r=bx.r/\x.b=bx.b)\/(n=wS bx/\m=wW bx/\x.b=bx.b/\x.l=bx.l)\/(n=wW bx/\m=wN bx/\x.l=bx.l/\x.t=bx.t):=by
 have h:=T.aG x u;have ⟨q,v⟩:=s;constructor
 ·rintro⟨k,hk,f⟩;have w:k=0\/k=1\/k=2\/k=3:=by omega
  rcases w with rfl|rfl|rfl|rfl
  ·rcases f with⟨un,g,e⟩|⟨un,j,g,em⟩
   ·rw[(ke i h un).1,(ke hm h g).1] at e;exact absurd (e) (Int.ne_of_gt q)
   ·obtain⟨a,b⟩:=ke i h un;obtain⟨c,d⟩:=lS hm h g;exact .inl ⟨a,c,b,d⟩
  ·rcases f with⟨un,g,e⟩|⟨un,j,g,em⟩
   ·rw[(lS i h un).1,(lS hm h g).1] at e;exact absurd (Xx.mp (e)) (aaP v)
   ·obtain⟨a,b⟩:=lS i h un;obtain⟨c,d⟩:=sy hm h g;exact .inr (.inl ⟨a,c,b,d⟩)
  ·rcases f with⟨un,g,e⟩|⟨un,j,g,em⟩
   ·rw[(sy i h un).1,(sy hm h g).1] at e;exact absurd (Xx.mp (e)) (aaP q)
   ·obtain⟨a,b⟩:=sy i h un;obtain⟨c,d⟩:=tD hm h g;exact .inr (.inr (.inl ⟨a,c,b,d⟩))
  ·rcases f with⟨un,g,e⟩|⟨un,j,g,em⟩
   ·rw[(tD i h un).1,(tD hm h g).1] at e;dsimp only[aa,af,wW] at e;lia
   ·obtain⟨a,b⟩:=tD i h un;have g:Up (af (af (af (af x)))) (af (af (af (af m)))):=g;rw[mI,mI] at g;obtain⟨c,d⟩:=ke hm h g;exact .inr (.inr (.inr ⟨a,c,b,d⟩))
 ·rintro (⟨rfl,rfl,o,p⟩|⟨rfl,rfl,o,p⟩|⟨rfl,rfl,o,p⟩|⟨rfl,rfl,o,p⟩)
  ·exact⟨0,by decide,.inr (by dsimp only[Up,aa,af,wN,wE];omega)⟩
  ·exact⟨1,by decide,.inr (by dsimp only[Up,aa,af,wS,wE];omega)⟩
  ·exact⟨2,by decide,.inr (by dsimp only[Up,aa,af,wS,wW];omega)⟩
  ·exact⟨3,by decide,.inr (by dsimp only[Up,aa,af,wN,wW];omega)⟩
end
section
variable{α:Type}[DecidableEq α]{rooms walls:List α}{ring:α->List α}{lt:α->α->Bool}
theorem EB{l d:List α}(nd:l.Nodup)(e:d.Nodup)(p:α->Bool):(l.countP fun y=>decide (y∈d)&&p y)=d.countP fun y=>decide (y∈l)&&p y:=by
 simp[tm];refine List.Perm.length_eq ((p8 (mu ri nd) (mu ri e)).mpr fun y=>?_)
 simp;constructor
 ·rintro⟨a,b,c⟩;exact⟨b,a,c⟩
 ·simp_all
theorem gG.half(C:gG rooms walls ring)(O:Order lt):2*aA (fun x=>(ring x).countP fun y=>ao rooms y&&lt x y) rooms=aA (fun x=>(ring x).countP (ao rooms)) rooms:=by
 have a:∀x∈rooms,((ring x).countP fun y=>ao rooms y&&lt x y)=rooms.countP fun y=>decide (y∈ring x)&&lt x y:=fun x c=>EB (C.nd x c) C.jD (lt x)
 have b:∀x∈rooms,(ring x).countP (ao rooms)=rooms.countP fun y=>decide (y∈ring x):=fun x c=>by
  have:=EB (C.nd x c) C.jD fun _=>true
  simp at this;exact this
 rw[cJ a,cJ b];have s:aA (fun x=>rooms.countP fun y=>decide (y∈ring x)&&lt x y) rooms=aA (fun y=>rooms.countP fun x=>decide (x∈ring y)&&lt x y) rooms:=by
  rw[rO fun x y=>decide (y∈ring x)&&lt x y]
  refine cJ fun y f=>yv fun x c=>?_
  have:(y∈ring x) ↔ (x∈ring y):=⟨fun h=>C.sym x c y f h,fun h=>C.sym y f x c h⟩
  simp only[ee,decide_eq_true_eq];rw[this]
 have t:aA (fun x=>rooms.countP fun y=>decide (y∈ring x)) rooms=aA (fun x=>rooms.countP fun y=>decide (y∈ring x)&&lt x y) rooms+aA (fun x=>rooms.countP fun y=>decide (y∈ring x)&&lt y x) rooms:=by
  rw[<-hV];refine cJ fun x c=>?_
  simp only[hU (fun y=>decide (y∈ring x)) (fun y=>lt x y)]
  congr 1;refine yv fun y f=>?_
  simp only[ee,decide_eq_true_eq,pl];constructor
  ·rintro⟨d,g⟩;refine⟨d,?_⟩;have ne:x≠y:=fun e=>C.fM x c (e ▸ d)
   rcases O.cS x y ne with h|h
   ·rw[g] at h;contradiction
   ·exact h
  ·rintro⟨d,g⟩;exact⟨d,O.jj g⟩
 lia
end
section
variable{bx:Ob}{os:List Ob}{lt:Ob->Ob->Bool}{x y n m p w:Ob}
theorem az.kz(T:az bx os){p q:Int}(e:bx.l<=p)(f:p<bx.r)(g:bx.b<=q)(i:q<bx.t){P:Ob->Prop}(j:∀o,(bx.l<=o.l/\o.l<o.r/\o.r<=bx.r/\bx.b<=o.b/\o.b<o.t/\o.t<=bx.t)->(P o ↔ o.l<=p/\p<o.r/\o.b<=q/\q<o.t)):∃x∈os,∀y∈os,P y ↔ y=x:=by
 obtain⟨x,c,k⟩:=T.hit p q e f g i;refine⟨x,c,fun y d=>?_⟩
 rw[j y (T.aG y d)];constructor
 ·intro h;refine (T.ap y d x c).resolve_right fun a=>?_
  unfold Apart at a;omega
 ·rintro rfl;exact k
theorem az.Rp(T:az bx os)(d:bx.ok)(nd:(os++walls bx).Nodup):((corners os (ba (os++walls bx))).countP fun c=>!ao os c.2.1&&!ao os c.2.2)=4:=by
 have C:=T.closed d nd;have H:=d;unfold Ob.ok at H;obtain⟨M,A,I⟩:=T.kz (p:=bx.r-1) (q:=bx.t-1) (P:=fun x=>x.t=bx.t/\x.r=bx.r) (by lia) (by lia) (by lia) (by lia) (fun o i=>by omega)
 obtain⟨N,B,J⟩:=T.kz (p:=bx.r-1) (q:=bx.b) (P:=fun x=>x.r=bx.r/\x.b=bx.b) (by lia) (by lia) (by lia) (by omega) (fun o i=>by omega)
 obtain⟨O,D,K⟩:=T.kz (p:=bx.l) (q:=bx.b) (P:=fun x=>x.b=bx.b/\x.l=bx.l) (by lia) (by omega) (by lia) (by omega) (fun o i=>by omega)
 obtain⟨Q,E,L⟩:=T.kz (p:=bx.l) (q:=bx.t-1) (P:=fun x=>x.l=bx.l/\x.t=bx.t) (by lia) (by omega) (by lia) (by lia) (fun o i=>by omega)
 rw[tm];have R:wN bx≠wE bx:=fun e=>by have:=congrArg Ob.t e;simp only[wN,wE] at this;omega
 have S:wN bx≠wS bx:=fun e=>by have:=congrArg Ob.b e;simp only[wN,wS] at this;omega
 have U:wN bx≠wW bx:=fun e=>by have:=congrArg Ob.t e;simp only[wN,wW] at this;omega
 have V:wE bx≠wS bx:=fun e=>by have:=congrArg Ob.b e;simp only[wE,wS] at this;omega
 have W:wE bx≠wW bx:=fun e=>by have:=congrArg Ob.l e;simp only[wE,wW] at this;omega
 have X:wS bx≠wW bx:=fun e=>by have:=congrArg Ob.b e;simp only[wS,wW] at this;omega
 have pm:((corners os (ba (os++walls bx))).filter fun c=>!ao os c.2.1&&!ao os c.2.2).Perm [(M,wN bx,wE bx),(N,wE bx,wS bx),(O,wS bx,wW bx),(Q,wW bx,wN bx)]:=by
  refine (p8 (mu ri (lV C)) ?_).mpr ?_
  ·simp only[me,ey,hF,or_false,VT,not_or,not_and];refine⟨⟨fun _ h=>absurd h R,fun _ h=>absurd h S,fun _ h=>absurd h U⟩,⟨fun _ h=>absurd h V,fun _ h=>absurd h W⟩,fun _ h=>absurd h X,not_false,z8⟩
  ·rintro⟨x,n,m⟩;have g:∀{o:Ob},o∈walls bx->o∉os:=fun {o} hw ho=>(iR.mp nd).2.2 o ho o hw rfl
   rw[gf,fh];simp only[ao,ee,pl,decide_eq_false_iff_not,ey,hF,or_false,VT];constructor
   ·rintro⟨⟨j,s⟩,Y,hm⟩;have F:n∈walls bx:=(C.mem x j n s.mem.1).resolve_left Y;have G:m∈walls bx:=(C.mem x j m s.mem.2).resolve_left hm;have f:=(T.jG d j F G).mp ((T.dH d j nd (.inr F) (.inr G)).mp s)
    rcases f with⟨a,b,c⟩|⟨a,b,c⟩|⟨a,b,c⟩|⟨a,b,c⟩
    ·exact .inl ⟨(I x j).mp c,a,b⟩
    ·exact .inr (.inl ⟨(J x j).mp c,a,b⟩)
    ·exact .inr (.inr (.inl ⟨(K x j).mp c,a,b⟩))
    ·exact .inr (.inr (.inr ⟨(L x j).mp c,a,b⟩))
   ·have k:wN bx∈walls bx:=by simp[walls]
    have u:wE bx∈walls bx:=by simp[walls]
    have v:wS bx∈walls bx:=by simp[walls]
    have z:wW bx∈walls bx:=by simp[walls]
    rintro (⟨rfl,rfl,rfl⟩|⟨rfl,rfl,rfl⟩|⟨rfl,rfl,rfl⟩|⟨rfl,rfl,rfl⟩)
    ·exact⟨⟨A,(T.dH d A nd (.inr k) (.inr u)).mpr ((T.jG d A k u).mpr (.inl ⟨rfl,rfl,(I _ A).mpr rfl⟩))⟩,g k,g u⟩
    ·exact⟨⟨B,(T.dH d B nd (.inr u) (.inr v)).mpr ((T.jG d B u v).mpr (.inr (.inl ⟨rfl,rfl,(J _ B).mpr rfl⟩)))⟩,g u,g v⟩
    ·exact⟨⟨D,(T.dH d D nd (.inr v) (.inr z)).mpr ((T.jG d D v z).mpr (.inr (.inr (.inl ⟨rfl,rfl,(K _ D).mpr rfl⟩))))⟩,g v,g z⟩
    ·exact⟨⟨E,(T.dH d E nd (.inr z) (.inr k)).mpr ((T.jG d E z k).mpr (.inr (.inr (.inr ⟨rfl,rfl,(L _ E).mpr rfl⟩))))⟩,g z,g k⟩
 rw[pm.length_eq];rfl
inductive Row {α:Type}(rooms:List α) (ring:α->List α) (wall:α):α->List α->Prop
 | stop {a:α}:a∉rooms->Row rooms ring wall a []
 | go {a p:α}{l:List α}:a∈rooms->a8 (ring a) p wall->Row rooms ring wall p l->Row rooms ring wall a (a::l)
theorem az.before(T:az bx os)(d:bx.ok)(b:x∈os)(nd:(os++walls bx).Nodup)(ht:x.t=bx.t):∃p,Nb bx os p/\cz x p (wN bx)/\((p∈os/\p.t=bx.t/\p.r=x.l)\/(p=wW bx/\x.l=bx.l)):=by
 have ix:=T.aG x b;have c:=d;unfold Ob.ok at c
 by_cases h:x.l=bx.l
 ·refine⟨wW bx,.inr (by simp[walls]),⟨3,by decide,.inr ?_⟩,.inr ⟨rfl,h⟩⟩
  dsimp only[Up,aa,af,wN,wW];omega
 ·-- the room to the left,at the top
  obtain⟨o,ho,k1,k2,k3,k4⟩:=T.hit (x.l-1) (x.t-1) (by lia) (by omega) (by omega) (by lia)
  have io:=T.aG o ho;have ap:Apart o x:=by
   rcases T.ap o ho x b with e|a
   ·lia
   ·exact a
  delta Apart at ap;refine⟨o,.inl ho,⟨3,by decide,.inr ?_⟩,.inl ⟨ho,by omega,by omega⟩⟩
  dsimp only[Up,aa,af,wN];omega
theorem az.IY(T:az bx os)(u:bx.ok)(nd:(os++walls bx).Nodup):∀(k:Nat) (x:Ob),x∈os->x.t=bx.t->(x.l-bx.l).toNat<=k->∃l,Row os (ba (os++walls bx)) (wN bx) x l/\l.Nodup/\∀y,y∈l ↔ y∈os/\y.t=bx.t/\y.r<=x.r:=by
 intro k;induction k with
 | zero =>
  intro x d i D;have E:=T.aG x d;obtain⟨p,j,f,h⟩:=T.before u d nd i;have A:Nb bx os (wN bx):=.inr (by simp[walls])
  have s:=(T.dH u d nd j A).mpr f
  rcases h with⟨g,v,B⟩|⟨g,v⟩
  ·have:=T.aG p g;omega
  ·subst g;refine⟨[x],.go d s (.stop fun z=>(iR.mp nd).2.2 _ z _ (by simp[walls]) rfl),U6 _ _,fun y=>?_⟩
   rw[eP];constructor
   ·rintro rfl;exact⟨d,i,U' _⟩
   ·rintro⟨o,B,F⟩;have C:=T.aG y o;refine (T.ap y o x d).resolve_right fun a=>?_
    unfold Apart at a;omega
 | succ k G =>
  intro x d i D;have E:=T.aG x d;obtain⟨p,j,f,h⟩:=T.before u d nd i;have A:Nb bx os (wN bx):=.inr (by simp[walls])
  have s:=(T.dH u d nd j A).mpr f
  rcases h with⟨g,v,B⟩|⟨g,v⟩
  ·have ip:=T.aG p g;obtain⟨l,r,n,e⟩:=G p g v (by omega)
   refine⟨x::l,.go d s r,me.mpr ⟨fun z=>?_,n⟩,fun y=>?_⟩
   ·have:=((e x).mp z).2.2;omega
   ·rw[ey,e y];constructor
    ·rintro (rfl|⟨a,b,c⟩)
     ·exact⟨d,i,U' _⟩
     ·exact⟨a,b,by omega⟩
    ·rintro⟨a,b,c⟩;have C:=T.aG y a
     rcases T.ap y a x d with e|q
     ·exact .inl e
     ·right;delta Apart at q;exact⟨a,b,by omega⟩
  ·simp_all
noncomputable def reach{a:Type}[DecidableEq a](rooms walls:List a)(ring:a->List a):Nat->List a
 | 0=>walls
 | k+1=>walls++rooms.filter fun x=>(ring x).any fun y=>decide (y∈reach rooms walls ring k)
theorem az.reached(T:az bx os)(c:bx.ok)(nd:(os++walls bx).Nodup):∀(k:Nat) (x:Ob),x∈os->(os.countP fun y=>decide (x.t<y.t))<k->x∈reach os (walls bx) (ba (os++walls bx)) k:=by
 intro k;induction k with
 | zero=>intro x _ h;omega
 | succ k d =>
  intro x a h;obtain⟨ne,_⟩:=T.chain c a nd (k:=0) (by decide)
  obtain⟨y,e⟩:=X2 _ ne;obtain⟨b,u⟩:=gA.mp e;have f:=hX.mpr ⟨b,0,by decide,u⟩
  refine et.mpr (.inr (gf.mpr ⟨a,sj.mpr ⟨y,f,decide_eq_true ?_⟩⟩))
  rcases et.mp b with ho|hw
  ·refine d y ho (hI ?_ (Nat.le_of_lt_succ h));have iy:=T.aG y ho;have hxy:x.t<y.t:=by
    have u:Up x y:=u;delta Up at u;omega
   have sp:=hU (fun z:Ob=>decide (x.t<z.t)) (fun z=>decide (y.t<z.t)) os
   have e1:(os.countP fun z=>decide (x.t<z.t)&&decide (y.t<z.t))=os.countP fun z=>decide (y.t<z.t):=yv fun z _=>by
    simp;lia
   have e2:0<os.countP fun z=>decide (x.t<z.t)&&!decide (y.t<z.t):=List.countP_pos_iff.mpr ⟨y,ho,by simp;omega⟩
   omega
  ·cases k with
   | zero=>exact hw
   | succ k=>exact et.mpr (.inl hw)
theorem az.all_reached(T:az bx os)(b:bx.ok)(nd:(os++walls bx).Nodup)(a:x∈os):x∈reach os (walls bx) (ba (os++walls bx)) os.length:=by
 refine T.reached b nd os.length x a ?_;have c:=Wz (p:=fun y:Ob=>decide (x.t<y.t)) (l:=os)
 refine Nat.lt_of_le_of_ne c fun e=>?_
 have:=List.countP_eq_length.mp e x a;simp at this
inductive jC (bx:Ob) (os:List Ob) (w:Ob):Ob->List Ob->Prop
 | stop {a:Ob}:a∉os->jC bx os w a []
 | go {a p:Ob}{l:List Ob}:a∈os->Nb bx os p->cz a p w->jC bx os w p l->jC bx os w a (a::l)
theorem Row.toF(T:az bx os)(b:bx.ok)(nd:(os++walls bx).Nodup){a:Ob}{l:List Ob}(h:Row os (ba (os++walls bx)) w a l):jC bx os w a l:=by
 induction h with
 | stop h=>exact .stop h
 | @go a p l h s _ c =>
  refine .go h (et.mp (hX.mp s.mem.1).1) ?_ c;obtain⟨i,d,e⟩:=s;exact T.vy b h nd d e
theorem jC.Hw(T:az bx os)(b:bx.ok)(nd:(os++walls bx).Nodup)(hw:Nb bx os w){a:Ob}{l:List Ob}(h:jC bx os w a l):Row os (ba (os++walls bx)) w a l:=by
 induction h with
 | stop h=>exact .stop h
 | @go a p l h c f _ d=>exact .go h ((T.dH b h nd c hw).mpr f) d
theorem jC.back(k:Nat)(i:k<4){a:Ob}{l:List Ob}(h:jC (aa k bx) (os.map (aa k)) (aa k w) (aa k a) l):∃c,l=c.map (aa k)/\jC bx os w a c:=by
 generalize d:aa k a=j at h;induction h generalizing a with
 | stop h =>
  subst d;exact⟨[],rfl,.stop fun z=>h (bg.mpr ⟨a,z,rfl⟩)⟩
 | @go j o l h q f _ s =>
  subst d;obtain⟨p,rfl⟩:=uZ k i o;obtain⟨c,e,r⟩:=s rfl;obtain⟨b,g,t⟩:=bg.mp h;rw[g8 k t] at g;refine⟨a::c,by rw[e];rfl,.go g ((pS k).mp q) (cz.ups k f) r⟩
def wall(bx:Ob)(k:Nat):Ob:=if k=0 then wN bx else if k=1 then wE bx else if k=2 then wS bx else wW bx
theorem gz(bx:Ob)(k:Nat):wall bx k∈walls bx:=by
 delta wall;split
 ·simp[walls]
 ·split
  ·simp[walls]
  ·split<;>simp[walls]
theorem Ag{k:Nat}(hk:k<4):aa k (wall bx k)=wN (aa k bx):=by
 have a:k=0\/k=1\/k=2\/k=3:=by lia
 rcases a with rfl|rfl|rfl|rfl
 ·rfl
 ·rfl
 ·have e:wall bx 2=wS bx:=rfl;rw[e];exact iA (by simp only[aa,af,wN,wS]) (by simp only[aa,af,wN,wS]) (by simp only[aa,af,wN,wS]) (by simp only[aa,af,wN,wS];lia)
 ·have e:wall bx 3=wW bx:=rfl;rw[e];exact iA (by simp only[aa,af,wN,wW]<;>omega) (by simp only[aa,af,wN,wW]<;>omega) (by simp only[aa,af,wN,wW]<;>omega) (by simp only[aa,af,wN,wW]<;>lia)
def mG(bx:Ob)(k:Nat)(x:Ob):Prop:=(aa k x).t=(aa k bx).t
theorem az.Px(nd:(os++walls bx).Nodup)(T:az bx os)(g:bx.ok)(k:Nat):(os.map (aa k)++walls (aa k bx)).Nodup:=by
 rw[iR] at nd ⊢;refine⟨sV k nd.1,?_,?_⟩
 ·have d:=kE k g;unfold Ob.ok at d;generalize aa k bx=c at d;simp only[walls,me,ey,hF,or_false,not_or];refine⟨⟨fun e=>?_,fun e=>?_,fun e=>?_⟩,⟨fun e=>?_,fun e=>?_⟩,fun e=>?_,not_false,z8⟩
  ·have:=congrArg Ob.t e;simp only[wN,wE] at this;omega
  ·have:=congrArg Ob.b e;simp only[wN,wS] at this;omega
  ·have:=congrArg Ob.t e;simp only[wN,wW] at this;omega
  ·have:=congrArg Ob.b e;simp only[wE,wS] at this;omega
  ·have:=congrArg Ob.l e;simp only[wE,wW] at this;omega
  ·have:=congrArg Ob.b e;simp only[wS,wW] at this;lia
 ·intro a h b f e;subst e;have i:=(T.turns k).aG a h;have f:a=wN (aa k bx)\/a=wE (aa k bx)\/a=wS (aa k bx)\/a=wW (aa k bx):=by simpa[walls] using f
  rcases f with rfl|rfl|rfl|rfl<;>simp only[wN,wE,wS,wW] at i<;>omega
theorem az.row(T:az bx os)(o:bx.ok)(nd:(os++walls bx).Nodup){k:Nat}(t:k<4)(v:x∈os)(A:mG bx k x)(h2:(aa k x).r=(aa k bx).r):∃l,Row os (ba (os++walls bx)) (wall bx k) x l/\l.Nodup/\∀y,y∈l ↔ y∈os/\mG bx k y:=by
 have q:=T.turns k;have h:=kE k o;have j:=az.Px nd T o k;obtain⟨l,r,n,e⟩:=q.IY h j _ (aa k x) (bg.mpr ⟨x,v,rfl⟩) A (eB _);have f:=Row.toF q h j r;rw[<-Ag t] at f;obtain⟨B,rfl,C⟩:=jC.back k t f;refine⟨B,C.Hw T o nd (.inr (gz bx k)),(gj.mp n).imp fun u e=>u (by rw[e]),fun y=>?_⟩
 constructor
 ·intro g;obtain⟨a,b,c⟩:=(e (aa k y)).mp (bg.mpr ⟨y,g,rfl⟩);obtain⟨z,d,s⟩:=bg.mp a;rw[g8 k s] at d;exact⟨d,b⟩
 ·rintro⟨g,hw⟩;have i:=q.aG _ (bg.mpr ⟨y,g,rfl⟩);obtain⟨z,d,s⟩:=bg.mp ((e (aa k y)).mpr ⟨bg.mpr ⟨y,g,rfl⟩,hw,by omega⟩)
  rw[g8 k s] at d;exact d
theorem az.tied(T:az bx os)(f:bx.ok)(b:y∈os){k:Nat}(c:k<4):wall bx k∈ba (os++walls bx) y ↔ mG bx k y:=by
 have i:=T.aG y b;rw[hX];delta mG;have g:k=0\/k=1\/k=2\/k=3:=by lia
 constructor
 ·rintro⟨_,j,hj,u⟩;have a:j=0\/j=1\/j=2\/j=3:=by lia
  delta Up at u
  rcases g with rfl|rfl|rfl|rfl
  ·have e:wall bx 0=wN bx:=rfl;rw[e] at u
   rcases a with rfl|rfl|rfl|rfl<;>simp only[aa,af,wN] at u ⊢<;>omega
  ·have e:wall bx 1=wE bx:=rfl;rw[e] at u
   rcases a with rfl|rfl|rfl|rfl<;>simp only[aa,af,wE] at u ⊢<;>omega
  ·have e:wall bx 2=wS bx:=rfl;rw[e] at u
   rcases a with rfl|rfl|rfl|rfl<;>simp only[aa,af,wS] at u ⊢<;>omega
  ·have e:wall bx 3=wW bx:=rfl;rw[e] at u
   rcases a with rfl|rfl|rfl|rfl<;>simp only[aa,af,wW] at u ⊢<;>omega
 ·intro h;refine⟨et.mpr (.inr (gz bx k)),k,c,?_⟩;rw[Ag c];have i':=(T.turns k).aG _ (bg.mpr ⟨y,b,rfl⟩);dsimp only[Up,wN]
  lia
theorem az.first(T:az bx os)(c:bx.ok)(nd:(os++walls bx).Nodup){k:Nat}(hk:k<4):∃x∈os,mG bx k x/\(aa k x).r=(aa k bx).r/\∀y∈os,a8 (ba (os++walls bx) y) (wall bx k) (wall bx ((k+1)%4)) ↔ y=x:=by
 have s:=c;unfold Ob.ok at s;have key:∀y∈os,∀P:Prop,(cz y (wall bx k) (wall bx ((k+1)%4)) ↔ P)->(a8 (ba (os++walls bx) y) (wall bx k) (wall bx ((k+1)%4)) ↔ P):=fun y a P h=>by
  rw[T.dH c a nd (.inr (gz bx k)) (.inr (gz bx _))];exact h
 have u:wN bx≠wE bx:=fun e=>by have:=congrArg Ob.t e;simp only[wN,wE] at this;omega
 have v:wN bx≠wS bx:=fun e=>by have:=congrArg Ob.b e;simp only[wN,wS] at this;omega
 have z:wN bx≠wW bx:=fun e=>by have:=congrArg Ob.t e;simp only[wN,wW] at this;omega
 have A:wE bx≠wS bx:=fun e=>by have:=congrArg Ob.b e;simp only[wE,wS] at this;lia
 have B:wE bx≠wW bx:=fun e=>by have:=congrArg Ob.l e;simp only[wE,wW] at this;omega
 have C:wS bx≠wW bx:=fun e=>by have:=congrArg Ob.b e;simp only[wS,wW] at this;lia
 have D:wN bx∈walls bx:=by simp[walls]
 have E:wE bx∈walls bx:=by simp[walls]
 have F:wS bx∈walls bx:=by simp[walls]
 have G:wW bx∈walls bx:=by simp[walls]
 delta mG;have Q:k=0\/k=1\/k=2\/k=3:=by lia
 rcases Q with rfl|rfl|rfl|rfl
 ·obtain⟨H,I,d⟩:=T.kz (p:=bx.r-1) (q:=bx.t-1) (P:=fun x=>x.t=bx.t/\x.r=bx.r) (by lia) (by lia) (by lia) (by lia) (fun o i=>by omega)
  have q:=(d H I).mpr rfl;refine⟨H,I,by simp only[aa];lia,by simp only[aa];lia,fun y a=>key y a _ ((T.jG c a D E).trans ⟨fun h=>?_,fun h=>.inl ⟨rfl,rfl,(d y a).mpr h⟩⟩)⟩
  rcases h with⟨_,_,h⟩|⟨h,_⟩|⟨h,_⟩|⟨h,_⟩
  ·exact (d y a).mp h
  ·exact absurd h u
  ·exact absurd h v
  ·exact absurd h z
 ·obtain⟨J,K,f⟩:=T.kz (p:=bx.r-1) (q:=bx.b) (P:=fun x=>x.r=bx.r/\x.b=bx.b) (by omega) (by omega) (by omega) (by omega) (fun o i=>by omega)
  have q:=(f J K).mpr rfl;refine⟨J,K,by simp only[aa,af];lia,by simp only[aa,af];lia,fun y a=>key y a _ ((T.jG c a E F).trans ⟨fun h=>?_,fun h=>.inr (.inl ⟨rfl,rfl,(f y a).mpr h⟩)⟩)⟩
  rcases h with⟨h,_⟩|⟨_,_,h⟩|⟨h,_⟩|⟨h,_⟩
  ·exact absurd h.symm u
  ·exact (f y a).mp h
  ·exact absurd h A
  ·exact absurd h B
 ·obtain⟨L,M,g⟩:=T.kz (p:=bx.l) (q:=bx.b) (P:=fun x=>x.b=bx.b/\x.l=bx.l) (by omega) (by omega) (by omega) (by omega) (fun o i=>by omega)
  have q:=(g L M).mpr rfl;refine⟨L,M,by simp only[aa,af];lia,by simp only[aa,af];lia,fun y a=>key y a _ ((T.jG c a F G).trans ⟨fun h=>?_,fun h=>.inr (.inr (.inl ⟨rfl,rfl,(g y a).mpr h⟩))⟩)⟩
  rcases h with⟨h,_⟩|⟨h,_⟩|⟨_,_,h⟩|⟨h,_⟩
  ·exact absurd h.symm v
  ·exact absurd h.symm A
  ·exact (g y a).mp h
  ·exact absurd h C
 ·obtain⟨N,O,j⟩:=T.kz (p:=bx.l) (q:=bx.t-1) (P:=fun x=>x.l=bx.l/\x.t=bx.t) (by omega) (by omega) (by omega) (by omega) (fun o i=>by omega)
  have q:=(j N O).mpr rfl;refine⟨N,O,by simp only[aa,af];lia,by simp only[aa,af];lia,fun y a=>key y a _ ((T.jG c a G D).trans ⟨fun h=>?_,fun h=>.inr (.inr (.inr ⟨rfl,rfl,(j y a).mpr h⟩))⟩)⟩
  rcases h with⟨h,_⟩|⟨h,_⟩|⟨h,_⟩|⟨_,_,h⟩
  ·exact absurd h.symm z
  ·exact absurd h.symm B
  ·exact absurd h.symm C
  ·exact (j y a).mp h
end
structure nF {α:Type} [DecidableEq α] (rooms:List α) (w:Nat->α) (ring:α->List α) (lt:α->α->Bool):Prop where
 C:gG rooms [w 0,w 1,w 2,w 3] ring
 Gu:[w 0,w 1,w 2,w 3].Nodup
 ww:∀x∈rooms,∀j k,j<4->k<4->a8 (ring x) (w j) (w k)->k=(j+1)%4
 row:∀k,k<4->∃x∈rooms,(∀y∈rooms,a8 (ring y) (w k) (w ((k+1)%4)) ↔ y=x)/\∃l,Row rooms ring (w k) x l/\l.Nodup/\∀y,y∈l ↔ y∈rooms/\w k∈ring y
 all:∀x∈rooms,x∈reach rooms [w 0,w 1,w 2,w 3] ring rooms.length
 Ai:(corners rooms ring).countP (canon rooms lt)+rooms.length=aA (fun x=>(ring x).countP fun y=>!ao rooms y) rooms+aA (fun x=>(ring x).countP fun y=>ao rooms y&&lt x y) rooms+1
section
variable{α:Type}[DecidableEq α]{rooms rooms' walls:List α}{w:Nat->α}{ring ring':α->List α}{lt:α->α->Bool}
def gI(l a:List α):Prop:=∃A B,l=A++B/\a=B++A
theorem gI.perm{l a:List α}(h:gI l a):a.Perm l:=by
 obtain⟨A,B,rfl,rfl⟩:=h;exact Wx
theorem gI.symm{l a:List α}(h:gI l a):gI a l:=by
 obtain⟨A,B,rfl,rfl⟩:=h;exact⟨B,A,rfl,rfl⟩
theorem gI.succ{l b:List α}(h:gI l b){n m:α}(s:a8 l n m):a8 b n m:=by
 obtain⟨A,B,rfl,rfl⟩:=h;obtain⟨i,c,a⟩:=s;have d:=(bt.mp c).1;rw[eH] at d a;delta a8;have get:∀j,j<A.length+B.length->(B++A)[(j+B.length)%(B.length+A.length)]?=(A++B)[j]?:=fun j f=>by
  by_cases g:j<A.length
  ·rw[qp (by omega),lz (by lia),kq g]
   congr 1;omega
  ·have e:(j+B.length)%(B.length+A.length)=j-A.length:=by
    rw[show j+B.length=(j-A.length)+(B.length+A.length) from by omega,Nat.add_mod_right,qp (by omega)]
   rw[e,kq (by omega),lz (by omega)]
 refine⟨(i+B.length)%(B.length+A.length),by rw[get i d];exact c,?_⟩
 have f:(i+1)%(A.length+B.length)<A.length+B.length:=W1 _ (by omega)
 rw[<-get _ f] at a;simp[<-a];congr 1;have k:((i+B.length)%(B.length+A.length)+1)%(B.length+A.length)=(i+B.length+1)%(B.length+A.length):=by
  rw[Xs,aa9,<-Xs]
 have o:((i+1)%(A.length+B.length)+B.length)%(B.length+A.length)=(i+1+B.length)%(B.length+A.length):=by
  rw[YA A.length B.length,Xs,aa9,<-Xs]
 simp[o];congr 1
 lia
theorem gI.dH{l a:List α}(h:gI l a){n m:α}:a8 a n m ↔ a8 l n m:=⟨h.symm.succ,h.succ⟩
theorem AL{a:Type}{f:a->Nat}{l b:List a}(p:l.Perm b):aA f l=aA f b:=by
 induction p with
 | nil=>rfl
 | cons x _ c=>show f x+_=f x+_;rw[c]
 | swap x y l=>show f y+(f x+aA f l)=f x+(f y+aA f l);lia
 | trans _ _ d e=>rw[d,e]
theorem KS(p:rooms'.Perm rooms)(a:α):ao rooms' a=ao rooms a:=by
 exact decide_eq_decide.mpr p.mem_iff
theorem nF.turn(h:nF rooms w ring lt)(p:rooms'.Perm rooms)(t:∀x∈rooms,gI (ring x) (ring' x)):nF rooms' w ring' lt:=by
 have mem:∀{x:α},x∈rooms' ↔ x∈rooms:=fun {x}=>p.mem_iff
 have C':gG rooms' [w 0,w 1,w 2,w 3] ring':={
  jD:=p.nodup_iff.mpr h.C.jD
  fH:=fun x d=>h.C.fH x (mem.mp d)
  nd:=fun x d=>(t x (mem.mp d)).perm.nodup_iff.mpr (h.C.nd x (mem.mp d))
  len:=fun x d=>by rw[(t x (mem.mp d)).perm.length_eq];exact h.C.len x (mem.mp d)
  mem:=fun x d y f=>(h.C.mem x (mem.mp d) y ((t x (mem.mp d)).perm.mem_iff.mp f)).imp mem.mpr id
  fM:=fun x d f=>h.C.fM x (mem.mp d) ((t x (mem.mp d)).perm.mem_iff.mp f)
  sym:=fun x d y f v=>(t y (mem.mp f)).perm.mem_iff.mpr (h.C.sym x (mem.mp d) y (mem.mp f) ((t x (mem.mp d)).perm.mem_iff.mp v))
  jT:=fun x d n m s g=>(t n (mem.mp g)).succ (h.C.jT x (mem.mp d) n m ((t x (mem.mp d)).dH.mp s) (mem.mp g))
  j2:=fun x d n m s hm=>(t m (mem.mp hm)).succ (h.C.j2 x (mem.mp d) n m ((t x (mem.mp d)).dH.mp s) (mem.mp hm))}
 have row:∀{wl a:α}{l:List α},Row rooms ring wl a l->Row rooms' ring' wl a l:=fun {wl a l} r=>by
  induction r with
  | stop g=>exact .stop fun z=>g (mem.mp z)
  | go A s _ o=>exact .go (mem.mpr A) ((t _ A).succ s) o
 have md:∀k x,x∈reach rooms [w 0,w 1,w 2,w 3] ring k->x∈reach rooms' [w 0,w 1,w 2,w 3] ring' k:=by
  intro k;induction k with
  | zero=>exact fun x d=>d
  | succ k o =>
   intro x d
   rcases et.mp d with d|d
   ·exact et.mpr (.inl d)
   ·obtain⟨i,B⟩:=gf.mp d;obtain⟨y,f,e⟩:=sj.mp B;refine et.mpr (.inr (gf.mpr ⟨mem.mpr i,sj.mpr ⟨y,(t x i).perm.mem_iff.mpr f,?_⟩⟩));exact decide_eq_true (o y (of_decide_eq_true e))
 refine⟨C',h.Gu,fun x d j k D q s=>h.ww x (mem.mp d) j k D q ((t x (mem.mp d)).dH.mp s),fun k q=>?_,fun x d=>?_,?_⟩
 ·obtain⟨x,d,i,l,r,n,e⟩:=h.row k q;refine⟨x,mem.mpr d,fun y f=>?_,l,row r,n,fun y=>?_⟩
  ·rw[(t y (mem.mp f)).dH];exact i y (mem.mp f)
  ·rw[e y];constructor
   ·rintro⟨a,b⟩;exact⟨mem.mpr a,(t y a).perm.mem_iff.mpr b⟩
   ·rintro⟨a,b⟩;exact⟨mem.mp a,(t y (mem.mp a)).perm.mem_iff.mp b⟩
 ·rw[p.length_eq];exact md _ x (h.all x (mem.mp d))
 ·have u:ao rooms'=ao rooms:=funext (KS p);have E:canon rooms' lt=canon rooms lt:=by unfold canon;rw[u]
  have c:(corners rooms' ring').countP (canon rooms' lt)=(corners rooms ring).countP (canon rooms lt):=by
   rw[E];refine List.Perm.countP_eq _ ((p8 (lV C') (lV h.C)).mpr ?_);rintro⟨x,n,m⟩;rw[fh,fh,mem];constructor
   ·rintro⟨a,b⟩;exact⟨a,(t x a).dH.mp b⟩
   ·rintro⟨a,b⟩;exact⟨a,(t x a).dH.mpr b⟩
  have F:aA (fun x=>(ring' x).countP fun y=>!ao rooms' y) rooms'=aA (fun x=>(ring x).countP fun y=>!ao rooms y) rooms:=by
   rw[AL p,u];exact cJ fun x d=>(t x d).perm.countP_eq _
  have G:aA (fun x=>(ring' x).countP fun y=>ao rooms' y&&lt x y) rooms'=aA (fun x=>(ring x).countP fun y=>ao rooms y&&lt x y) rooms:=by
   rw[AL p,u];exact cJ fun x d=>(t x d).perm.countP_eq _
  simp only[c,F,G,p.length_eq];exact h.Ai
end
section
variable{α β:Type}[DecidableEq α][DecidableEq β]
theorem a8.map{l:List α}(ν:α->β){n m:α}(h:a8 l n m):a8 (l.map ν) (ν n) (ν m):=by
 obtain⟨i,a,b⟩:=h;exact⟨i,by rw[eo,a];rfl,by simp only[a7,eo,b];rfl⟩
theorem a8.of_map{l:List α}{ν:α->β}{a b:β}(h:a8 (l.map ν) a b):∃n m,a=ν n/\b=ν m/\a8 l n m:=by
 obtain⟨i,d,c⟩:=h;rw[eo] at d c;rw[a7] at c;obtain⟨n,e,rfl⟩:=j'.mp d;obtain⟨m,f,rfl⟩:=j'.mp c;exact⟨n,m,rfl,rfl,i,e,f⟩
end
section
variable{bx:Ob}{os:List Ob}{β:Type}[DecidableEq β]{ν:Ob->β}{ring':β->List β}{lt:β->β->Bool}
theorem jS(a:bx.ok){j k:Nat}(hj:j<4)(hk:k<4)(h:wall bx j=wall bx k):j=k:=by
 delta Ob.ok at a;have c:j=0\/j=1\/j=2\/j=3:=by lia
 have d:k=0\/k=1\/k=2\/k=3:=by lia
 have a0:wall bx 0=wN bx:=rfl;have a1:wall bx 1=wE bx:=rfl;have e:wall bx 2=wS bx:=rfl;have f:wall bx 3=wW bx:=rfl;have g:=congrArg Ob.l h;have i:=congrArg Ob.b h;have m:=congrArg Ob.r h;have n:=congrArg Ob.t h
 rcases c with rfl|rfl|rfl|rfl<;>rcases d with rfl|rfl|rfl|rfl<;>first|rfl|(exfalso;simp only[a0,a1,e,f,wN,wE,wS,wW] at g i m n;lia)
theorem az.ye(T:az bx os)(v:bx.ok)(nd:(os++walls bx).Nodup)(inj:∀a∈os++walls bx,∀b∈os++walls bx,ν a=ν b->a=b)(B:∀x∈os,ring' (ν x)=(ba (os++walls bx) x).map ν)(O:Order lt):nF (os.map ν) (fun k=>ν (wall bx k)) ring' lt:=by
 have C:=T.closed v nd;have A:∀{a:Ob},a∈os->a∈os++walls bx:=fun h=>et.mpr (.inl h)
 have F:∀{a:Ob},a∈walls bx->a∈os++walls bx:=fun h=>et.mpr (.inr h)
 have t:∀{x y:Ob},y∈ba (os++walls bx) x->y∈os++walls bx:=fun h=>(hX.mp h).1
 have inR:∀{y:Ob},y∈os++walls bx->ν y∈os.map ν->y∈os:=fun {y} i h=>by
  obtain⟨z,I,e⟩:=bg.mp h;rw[<-inj z (A I) y i e];exact I
 have E:∀{x n m:Ob},x∈os->n∈os++walls bx->m∈os++walls bx->(a8 (ring' (ν x)) (ν n) (ν m) ↔ a8 (ba (os++walls bx) x) n m):=fun {x n m} d J hm=>by
  rw[B x d];constructor
  ·intro h;obtain⟨R,S,U,V,s⟩:=h.of_map;simp only[inj n J R (t s.mem.1) U,inj m hm S (t s.mem.2) V];exact s
  ·exact fun s=>s.map ν
 have C':gG (os.map ν) ((walls bx).map ν) ring':={
  jD:=gj.mpr (C.jD.imp_of_mem fun o u D e=>D (inj _ (A o) _ (A u) e))
  fH:=fun a o hw=>by
   obtain⟨x,d,rfl⟩:=bg.mp o;obtain⟨y,i,e⟩:=bg.mp hw;have:=inj y (F i) x (A d) e;subst this;exact C.fH y d i
  nd:=fun a o=>by
   obtain⟨x,d,rfl⟩:=bg.mp o;rw[B x d];exact gj.mpr ((C.nd x d).imp_of_mem fun o u D e=>D (inj _ (t o) _ (t u) e))
  len:=fun a o=>by
   obtain⟨x,d,rfl⟩:=bg.mp o;rw[B x d,a7];exact C.len x d
  mem:=fun a o b u=>by
   obtain⟨x,d,rfl⟩:=bg.mp o;rw[B x d] at u;obtain⟨y,i,rfl⟩:=bg.mp u;exact (C.mem x d y i).imp (fun h=>bg.mpr ⟨y,h,rfl⟩) (fun h=>bg.mpr ⟨y,h,rfl⟩)
  fM:=fun a o u=>by
   obtain⟨x,d,rfl⟩:=bg.mp o;rw[B x d] at u;obtain⟨y,i,e⟩:=bg.mp u;have:=inj y (t i) x (A d) e;subst this;exact C.fM y d i
  sym:=fun a o b u h=>by
   obtain⟨x,d,rfl⟩:=bg.mp o;obtain⟨y,i,rfl⟩:=bg.mp u;rw[B x d] at h;obtain⟨z,I,e⟩:=bg.mp h;have:=inj z (t I) y (A i) e;subst this;rw[B z i];exact bg.mpr ⟨x,C.sym x d z i I,rfl⟩
  jT:=fun a o b c s u=>by
   obtain⟨x,d,rfl⟩:=bg.mp o;have s':=s;rw[B x d] at s';obtain⟨n,m,rfl,rfl,G⟩:=s'.of_map;have J:=inR (t G.mem.1) u;exact (E J (t G.mem.2) (A d)).mpr (C.jT x d n m G J)
  j2:=fun a o b c s Y=>by
   obtain⟨x,d,rfl⟩:=bg.mp o;have s':=s;rw[B x d] at s';obtain⟨n,m,rfl,rfl,G⟩:=s'.of_map;have hm:=inR (t G.mem.2) Y;exact (E hm (A d) (t G.mem.1)).mpr (C.j2 x d n m G hm)}
 have row:∀{w a:Ob}{l:List Ob},w∈walls bx->a∈os++walls bx->Row os (ba (os++walls bx)) w a l->Row (os.map ν) ring' (ν w) (ν a) (l.map ν):=fun {w a l} hw o r=>by
  induction r with
  | stop J=>exact .stop fun z=>J (inR o z)
  | @go a p l h s _ K=>exact .go (bg.mpr ⟨a,h,rfl⟩) ((E h (t s.mem.1) (F hw)).mpr s) (K (t s.mem.1))
 have md:∀k x,x∈os++walls bx->x∈reach os (walls bx) (ba (os++walls bx)) k->ν x∈reach (os.map ν) ((walls bx).map ν) ring' k:=by
  intro k;induction k with
  | zero=>exact fun x _ d=>bg.mpr ⟨x,d,rfl⟩
  | succ k K =>
   intro x hN d
   rcases et.mp d with d|d
   ·exact et.mpr (.inl (bg.mpr ⟨x,d,rfl⟩))
   ·obtain⟨N,L⟩:=gf.mp d;obtain⟨y,i,e⟩:=sj.mp L;refine et.mpr (.inr (gf.mpr ⟨bg.mpr ⟨x,N,rfl⟩,sj.mpr ⟨ν y,?_,?_⟩⟩))
    ·rw[B x N];exact bg.mpr ⟨y,i,rfl⟩
    ·exact decide_eq_true (K y (t i) (of_decide_eq_true e))
 have P:∀{y:Ob},y∈os++walls bx->ao (os.map ν) (ν y)=ao os y:=fun {y} i=>by
  refine decide_eq_decide.mpr ⟨inR i,fun h=>bg.mpr ⟨y,h,rfl⟩⟩
 have M:∀(f:β->Nat) (g:Ob->Nat),(∀x∈os,f (ν x)=g x)->aA f (os.map ν)=aA g os:=fun f g h=>by
  have:∀l:List Ob,(∀x∈l,f (ν x)=g x)->aA f (l.map ν)=aA g l:=by
   intro l;induction l with
   | nil=>intro _;rfl
   | cons a l K =>
    intro h;show f (ν a)+aA f (l.map ν)=g a+aA g l;simp only[h a (by simp),K fun x d=>h x (by simp[d])]
  exact this os h
 have a1:aA (fun x=>(ring' x).countP (ao (os.map ν))) (os.map ν)=aA (fun x=>(ba (os++walls bx) x).countP (ao os)) os:=M _ _ fun x d=>by
  rw[B x d,p6];exact yv fun y i=>by show ao (os.map ν) (ν y)=true ↔ _;rw[P (t i)]
 have W:aA (fun x=>(ring' x).countP fun y=>!ao (os.map ν) y) (os.map ν)=aA (fun x=>(ba (os++walls bx) x).countP fun y=>!ao os y) os:=M _ _ fun x d=>by
  rw[B x d,p6];exact yv fun y i=>by show (!ao (os.map ν) (ν y))=true ↔ _;rw[P (t i)]
 have Z:((corners (os.map ν) ring').countP fun c=>!ao (os.map ν) c.2.1&&!ao (os.map ν) c.2.2)=4:=by
  rw[<-T.Rp v nd];have pm:(corners (os.map ν) ring').Perm ((corners os (ba (os++walls bx))).map fun c=>(ν c.1,ν c.2.1,ν c.2.2)):=by
   refine (p8 (lV C') (gj.mpr ((lV C).imp_of_mem ?_))).mpr ?_
   ·rintro⟨x,n,m⟩ ⟨x',R,S⟩ h h' D e;obtain⟨d,s⟩:=fh.mp h;obtain⟨X,s'⟩:=fh.mp h';simp at e;exact D (by simp only[inj x (A d) x' (A X) e.1,inj n (t s.mem.1) R (t s'.mem.1) e.2.1,inj m (t s.mem.2) S (t s'.mem.2) e.2.2])
   ·rintro⟨a,b,c⟩;rw[fh];constructor
    ·rintro⟨o,s⟩;obtain⟨x,d,rfl⟩:=bg.mp o;rw[B x d] at s;obtain⟨n,m,rfl,rfl,G⟩:=s.of_map;exact bg.mpr ⟨(x,n,m),fh.mpr ⟨d,G⟩,rfl⟩
    ·intro h;obtain⟨⟨x,n,m⟩,L,e⟩:=bg.mp h;cases e;obtain⟨d,s⟩:=fh.mp L;exact⟨bg.mpr ⟨x,d,rfl⟩,(E d (t s.mem.1) (t s.mem.2)).mpr s⟩
  rw[pm.countP_eq,p6];refine yv ?_;rintro⟨x,n,m⟩ h;obtain⟨d,s⟩:=fh.mp h;show (!ao (os.map ν) (ν n)&&!ao (os.map ν) (ν m))=true ↔ _;rw[P (t s.mem.1),P (t s.mem.2)]
 have b1:=C'.least O;have b2:=C'.half O;have b3:=T.sums v nd;refine⟨C',?_,?_,?_,?_,?_⟩
 ·exact gj.mpr ((iR.mp nd).2.1.imp_of_mem fun o u D e=>D (inj _ (F o) _ (F u) e))
 ·intro a o j k Q H s;obtain⟨x,d,rfl⟩:=bg.mp o;have s:=(E d (F (gz bx j)) (F (gz bx k))).mp s;have f:=(T.jG v d (gz bx j) (gz bx k)).mp ((T.dH v d nd (.inr (gz bx j)) (.inr (gz bx k))).mp s);have e0:wN bx=wall bx 0:=rfl;have U:wE bx=wall bx 1:=rfl;have V:wS bx=wall bx 2:=rfl;have e3:wW bx=wall bx 3:=rfl;rw[e0,U,V,e3] at f
  rcases f with⟨p,q,_⟩|⟨p,q,_⟩|⟨p,q,_⟩|⟨p,q,_⟩
  ·rw[jS v Q (by decide) p,jS v H (by decide) q]
  ·rw[jS v Q (by decide) p,jS v H (by decide) q]
  ·rw[jS v Q (by decide) p,jS v H (by decide) q]
  ·rw[jS v Q (by decide) p,jS v H (by decide) q]
 ·intro k H;obtain⟨x,d,N,L,h3⟩:=T.first v nd H
  obtain⟨l,r,n,e⟩:=T.row v nd H d N L;refine⟨ν x,bg.mpr ⟨x,d,rfl⟩,fun b u=>?_,l.map ν,row (gz bx k) (A d) r,gj.mpr (n.imp_of_mem fun o u D e'=>D (inj _ (A ((e _).mp o).1) _ (A ((e _).mp u).1) e')),fun b=>?_⟩
  ·obtain⟨y,i,rfl⟩:=bg.mp u;rw[E i (F (gz bx k)) (F (gz bx _)),h3 y i];exact⟨fun h=>by rw[h],fun h=>inj y (A i) x (A d) h⟩
  ·rw[bg];constructor
   ·rintro⟨y,i,rfl⟩;obtain⟨p,q⟩:=(e y).mp i;refine⟨bg.mpr ⟨y,p,rfl⟩,?_⟩;rw[B y p];exact bg.mpr ⟨_,(T.tied v p H).mpr q,rfl⟩
   ·rintro⟨p,q⟩;obtain⟨y,i,rfl⟩:=bg.mp p;rw[B y i] at q;obtain⟨z,I,ez⟩:=bg.mp q;have:=inj z (t I) _ (F (gz bx k)) ez;subst this;exact⟨y,(e y).mpr ⟨i,(T.tied v i H).mp I⟩,rfl⟩
 ·intro a o;obtain⟨x,d,rfl⟩:=bg.mp o;rw[a7];exact md _ x (A d) (T.all_reached v nd d)
 ·rw[a1,W,Z] at b1;rw[a1] at b2;rw[W,a7]
  lia
end
def dN(os:List Ob):Prop:=∀p,(cW os).count p<=3
theorem Gp(a b:List Ob):cW (a++b)=cW a++cW b:=by
 exact YX
theorem dN.perm{a b:List Ob}(h:dN a)(p:b.Perm a):dN b:=fun q=>by
 have:(cW b).Perm (cW a):=p.flatMap_right _;rw[this.count_eq];exact h q
theorem dN.one(o:Ob)(h:o.ok):dN [o]:=fun q=>by
 have e:cW [o]=cI o:=r4 _;rw[e];delta Ob.ok at h;simp only[cI,U3,UP,beq_iff_eq];split<;>split<;>split<;>split<;>lia
theorem dN.cut{A B:List Ob}{o x y:Ob}(h:dN (A++o::B))(k:∀p,(cI x).count p+(cI y).count p=(cI o).count p\/((cW (A++o::B)).count p=0/\(cI x).count p+(cI y).count p<=3)):dN (A++[x]++B++[y]):=fun p=>by
 have h:=h p;have k:=k p;have e:∀l:List Ob,∀o,cW (o::l)=cI o++cW l:=fun l o=>rfl
 simp only[Gp,Vd,e,show cW []=[] from rfl,UP] at *
 lia
theorem dN.Qa{A B:List Ob}{o:Ob}{c:Int}(h:dN (A++o::B))(ok:o.ok)(f:∀z∈A++o::B,z.l≠c/\z.r≠c):dN (A++[⟨o.l,o.b,c,o.t⟩]++B++[⟨c,o.b,o.r,o.t⟩]):=by
 refine h.cut fun p=>?_
 by_cases e:p.1=c
 ·right;refine⟨WY.mpr fun a=>?_,?_⟩
  ·obtain⟨z,d,a⟩:=Wb.mp a;have:=f z d;simp only[cI,ey,US] at a
   grind
  ·have:=f o (by simp)
   delta Ob.ok at ok;simp only[cI,U3,UP,beq_iff_eq,US]
   grind
 ·left;simp only[cI,U3,UP,beq_iff_eq]
  grind
theorem dN.O'{A B:List Ob}{o:Ob}{c:Int}(h:dN (A++o::B))(ok:o.ok)(f:∀z∈A++o::B,z.b≠c/\z.t≠c):dN (A++[⟨o.l,o.b,o.r,c⟩]++B++[⟨o.l,c,o.r,o.t⟩]):=by
 refine h.cut fun p=>?_
 by_cases e:p.2=c
 ·right;refine⟨WY.mpr fun a=>?_,?_⟩
  ·obtain⟨z,d,a⟩:=Wb.mp a;have:=f z d;simp only[cI,ey,US] at a
   grind
  ·have:=f o (by simp)
   delta Ob.ok at ok;simp only[cI,U3,UP,beq_iff_eq]
   grind
 ·left;simp only[cI,U3,UP,beq_iff_eq]
  grind
theorem dN.xE{os:List Ob}(W:Int)(h:dN os):dN (os.map fun o=>⟨W-o.r,o.b,W-o.l,o.t⟩):=fun p=>by
 have e:(cW (os.map fun o=>⟨W-o.r,o.b,W-o.l,o.t⟩)).count p=(cW os).count (W-p.1,p.2):=by
  induction os with
  | nil=>rfl
  | cons o os a =>
   have h':dN os:=fun q=>by
    have:=h q;rw[show cW (o::os)=cI o++cW os from rfl,Vd] at this
    lia
   simp only[hY,show ∀l:List Ob,∀o,cW (o::l)=cI o++cW l from fun _ _=>rfl,show ∀l:List Ob,∀o,cW (o::l)=cI o++cW l from fun _ _=>rfl,Vd,Vd,a h']
   congr 1;simp only[cI,U3,UP,US]
   grind
 rw[e];exact h _
section
variable{α:Type}[DecidableEq α]{rooms:List α}{ring:α->List α}{wl f:α}
inductive Dp (rooms:List α) (ring:α->List α) (wl f:α):Nat->α->Prop
 | z {y:α}:a8 (ring y) wl f->Dp rooms ring wl f 0 y
 | s {k:Nat}{y z:α}:a8 (ring y) wl z->z∈rooms->Dp rooms ring wl f k z->Dp rooms ring wl f (k+1) y
theorem Dp.succ{k:Nat}{y:α}(h:Dp rooms ring wl f k y):∃z,a8 (ring y) wl z:=by
 cases h with
 | z h=>exact⟨_,h⟩
 | s h _ _=>exact⟨_,h⟩
theorem Dp.uniq(j:f∉rooms)(fn:∀y∈rooms,∀z i,a8 (ring y) wl z->a8 (ring y) wl i->z=i){k:Nat}{y:α}(h:Dp rooms ring wl f k y):∀{c},y∈rooms->Dp rooms ring wl f c y->k=c:=by
 induction h with
 | z a =>
  intro c g h';cases h' with
  | z b=>rfl
  | s b m d=>exact absurd (fn _ g _ _ a b ▸ m) j
 | @s k y z a m d l =>
  intro c g h';cases h' with
  | z b=>exact absurd (fn _ g _ _ b a ▸ m) j
  | @s c _ i b m' d' =>
   have e:=fn _ g _ _ a b;subst e;rw[l m d']
theorem Ao:∀{l m:List α},l.Nodup->(∀x∈l,x∈m)->l.length<=m.length
 | [],_,_,_=>ro _
 | a::l,m,b,h=>by
  have d:=Ao (l:=l) (m:=m.erase a) (me.mp b).2 fun x c=>(YI fun z=>(me.mp b).1 (by rw[<-z];exact c)).mpr (h x (fm _ c))
  rw[X9 (h a fv)] at d;have:=Yi (h a fv);simp only[f'];omega
theorem G9(q:f∉rooms)(fn:∀y∈rooms,∀z t,a8 (ring y) wl z->a8 (ring y) wl t->z=t)(w:∀y∈rooms,(∃z,a8 (ring y) wl z)->∃p,a8 (ring y) p wl/\(p∈rooms->a8 (ring p) wl y)) :
  ∀(m n:Nat) (b:α) (c:List α),rooms.length<m+c.length->c.Nodup->(∀y∈c,y∈rooms/\∃k,k<n/\Dp rooms ring wl f k y)->(b∈rooms->Dp rooms ring wl f n b) ->
  ∃l,Row rooms ring wl b l/\l.Nodup/\∀y∈l,y∈rooms/\∃k,n<=k/\Dp rooms ring wl f k y:=by
 intro m;induction m with
 | zero =>
  intro n b c hl nd j _;have:=Ao nd fun y e=>(j y e).1
  omega
 | succ m x =>
  intro n b c hl nd j A
  by_cases g:b∈rooms
  ·have d:=A g;have u:b∉c:=fun h=>by
    obtain⟨_,k,o,i⟩:=j b h;have:=d.uniq q fn g i;omega
   obtain⟨p,sp,B⟩:=w b g d.succ;obtain⟨l,r,C,v⟩:=x (n+1) p (b::c) (by simp only[f'];omega) (me.mpr ⟨u,nd⟩) (fun y e=>by
    rcases ey.mp e with rfl|e
    ·exact⟨g,n,Vw n,d⟩
    ·obtain⟨a,k,o,i⟩:=j y e;exact⟨a,k,by omega,i⟩) (fun D=>.s (B D) g d)
   refine⟨b::l,.go g sp r,me.mpr ⟨fun h=>?_,C⟩,fun y e=>?_⟩
   ·obtain⟨_,k,o,i⟩:=v b h;have:=d.uniq q fn g i;omega
   ·rcases ey.mp e with rfl|e
    ·exact⟨g,n,eB n,d⟩
    ·obtain⟨a,k,o,i⟩:=v y e;exact⟨a,k,by omega,i⟩
  ·exact⟨[],.stop g,z8,by simp⟩
end
section
noncomputable def top(i:Nat):Stmt:=PySem.Challenge.pw_roomtouch_k02_no_webs.main.body.getD i (.Pass ⟨0,0,0,0⟩)
local macro_rules | `(tactic| walk_at "sc")=>`(tactic| exact⟨rfl,rfl,rfl,by decide +kernel,rfl,by decide +kernel,by decide +kernel⟩)
abbrev vR:Stmt:=top 15
theorem C0:bw ["wall"] ["wall"] (aJ vR):=by walk_at "sc"
abbrev xN:Stmt:=top 16
theorem zf:bw ["thing"] ["thing"] (aJ xN):=by walk_at "sc"
abbrev uR:Stmt:=top 17
theorem CA:bw ["thing"] ["thing"] (aJ uR):=by walk_at "sc"
abbrev xF:Stmt:=top 18
theorem Cw:bw ["room","ring","names"] ["room","ring","names"] (aJ xF):=by walk_at "sc"
abbrev xX:Stmt:=top 19
theorem Bl:bw ["web","rooms","names"] ["web"] (aJ xX):=by walk_at "sc"
abbrev vb:Stmt:=top 20
theorem yz:bw ["rings","room","name"] ["rings"] (aJ vb):=by walk_at "sc"
abbrev xt:Stmt:=top 21
theorem AM:bw ["rings","corners","room","ring","name","behind"] ["rings"] (aJ xt):=by walk_at "sc"
abbrev wU:Stmt:=top 22
theorem DJ:bw ["corner","corners","room","name","behind"] ["corner","corners"] (aJ wU):=by walk_at "sc"
abbrev ym:Stmt:=top 23
theorem Dj:bw ["rings","corners"] ["rings"] (aJ ym):=by walk_at "sc"
abbrev uC:Stmt:=top 24
theorem C7:bw ["rings","wall","first","row","name","ring"] ["rings","wall","first"] (aJ uC):=by walk_at "sc"
abbrev u9:Stmt:=top 25
theorem y8:bw ["rings","wall","corners","firsts","tied"] ["rings","wall"] (aJ u9):=by walk_at "sc"
abbrev wA:Stmt:=top 26
theorem BS:bw ["ring","names"] ["ring","names"] (aJ wA):=by walk_at "sc"
abbrev v8:Stmt:=top 27
theorem Ak:bw ["rings","reached","turn"] ["rings"] (aJ v8):=by walk_at "sc"
abbrev u5:Stmt:=top 28
theorem Aa:bw ["rings","ties","room","name"] ["rings"] (aJ u5):=by walk_at "sc"
abbrev uK:Stmt:=top 29
theorem zm:bw ["rings","threes","corner"] ["rings"] (aJ uK):=by walk_at "sc"
abbrev xG:Stmt:=top 30
theorem zu:bw ["web","rings"] ["web"] (aJ xG):=by walk_at "sc"
abbrev uS:Stmt:=top 32
theorem MT:bw ["web","rings","threes","names","found","one","ties","other","thirds"] ["web"] (aJ uS):=by walk_at "sc"
abbrev vg:Stmt:=top 34
theorem DU:bw ["_law_cell","_law_k","_law_number"] ["_law_cell","_law_k"] (aJ vg):=by walk_at "sc"
abbrev yn:Stmt:=top 35
theorem Au:bw ["_law_script","_law_cells","_law_number","_law_k"] ["_law_script"] (aJ yn):=by walk_at "sc"
abbrev xa:Stmt:=top 36
theorem Di:bw ["_law_purse_here","_law_out_of","_law_drawn"] ["_law_purse_here","_law_out_of"] (aJ xa):=by walk_at "sc"
abbrev vV:Stmt:=top 37
theorem CN:bw ["_law_purse_here","_law_many","_law_letters","_law_long","_law_stem","_law_at","_law_found","_law_k","_law_spots","_law_name"] ["_law_purse_here","_law_many"] (aJ vV):=by walk_at "sc"
abbrev xp:Stmt:=top 38
theorem AR:bw ["_law_purse_here","_law_rows","_law_name","_law_at","_law_low","_law_room","_law_lines","_law_line","_law_lower","_law_upper"] ["_law_purse_here","_law_rows","_law_name"] (aJ xp):=by walk_at "sc"
abbrev wd:Stmt:=top 39
theorem Bh:bw ["_law_purse_here","_law_most","_law_names_here","_law_rows","_law_count","_law_k","_law_wide"] ["_law_purse_here","_law_most"] (aJ wd):=by walk_at "sc"
abbrev wV:Stmt:=top 40
theorem Dn:bw ["_law_one","_law_other","_law_low"] ["_law_one","_law_other","_law_low"] (aJ wV):=by walk_at "sc"
abbrev vQ:Stmt:=top 41
theorem B1:bw ["_law_rows","_law_one","_law_low","_law_way","_law_found","_law_other","_law_near"] ["_law_rows","_law_one","_law_low","_law_way"] (aJ vQ):=by walk_at "sc"
abbrev vo:Stmt:=top 42
theorem zk:bw ["_law_rows","_law_one","_law_above","_law_right","_law_beneath","_law_left"] ["_law_rows","_law_one"] (aJ vo):=by walk_at "sc"
abbrev wt:Stmt:=top 43
theorem yR:bw ["_law_rows"] ["_law_rows"] (aJ wt):=by walk_at "sc"
abbrev vM:Stmt:=top 44
theorem Cg:bw ["_law_purse_here","_law_web_here","_law_at","_law_found","_law_room","_law_row","_law_far"] ["_law_purse_here","_law_web_here"] (aJ vM):=by walk_at "sc"
abbrev vK:Stmt:=top 45
theorem yJ:bw ["_law_purse_here","_law_web_here","_law_names_here","_law_two","_law_found","_law_k","_law_after"] ["_law_purse_here","_law_web_here"] (aJ vK):=by walk_at "sc"
abbrev vq:Stmt:=top 46
theorem B0:bw ["_law_purse_here","_law_web_here","_law_room","_law_row","_law_some","_law_nine"] ["_law_purse_here","_law_web_here"] (aJ vq):=by walk_at "sc"
abbrev vC:Stmt:=top 47
theorem AX:bw ["_law_hole","_law_names_here","_law_apart","_law_k"] [] (aJ vC):=by walk_at "sc"
abbrev vm:Stmt:=top 48
theorem CY:bw ["_law_purse_here","_law_web_here","_law_bad","_law_old","_law_found","_law_room","_law_row"] ["_law_purse_here","_law_web_here"] (aJ vm):=by walk_at "sc"
abbrev vw:Stmt:=top 49
theorem Cm:bw ["_law_way","_law_web_here","_law_caught","e"] ["_law_way","_law_web_here"] (aJ vw):=by walk_at "sc"
abbrev uM:Stmt:=top 50
theorem yH:bw ["_law_script","_law_purse_here","_law_web_here","_law_ringed","_law_odd_here"] ["_law_script"] (aJ uM):=by walk_at "sc"
structure Txt (mg:eA->Option bR):Prop where
 len:mg "len"=none
 int:mg "int"=none
 Ru:mg "isinstance"=none
 pG:mg "range"=none
 min:mg "min"=none
 max:mg "max"=none
 all:mg "all"=none
 dict:mg "dict"=none
 sorted:mg "sorted"=none
 tuple:mg "tuple"=none
 list:mg "list"=none
 str:mg "str"=none
 bool:mg "bool"=none
end
section
variable{P:iN}{w:nE}{A:n6}{E:bR->dr->Prop}{s:dr}{X:Cx}{pos:u3}{e:gi}
theorem Gr{l:dR}{items:Array bR}{Q:bR->dr->Prop}{Fin:nS->Prop}(hl:s.heap.IsList l items)
 (S:∀(led:Bool) (R:Yq->dr->Prop) (I:dR) (f:nS),f=((s.heap.push {cls:=.type "set",dict:=none,data:=.set #[] 0 (.fresh 0 0 led)}).push {cls:=.type "list_iterator",data:=.fields #[.ref l,.int 0 0]})->l≠I->s.heap.objs.size∉[I,l]->f.get? s.heap.objs.size=some {cls:=.type "set",dict:=none,data:=.set #[] 0 (.fresh 0 0 led)}->f.IsList l items->(∃o,f.get? I=some o/\o.cls=.type "list_iterator"/\o.data=.fields #[.ref l,.int 0 0]) ->
   (∀s',Moved [s.heap.objs.size,I] (fun a b=>b=a) {s with heap:=f} s'->Fin s'.heap->R (.ok (.ret .none)) s')->Wj (ib P w) A.in1.in1 (.builtin "set.update.loop" ⟨[.ref s.heap.objs.size,.ref I],[]⟩) R {s with heap:=f})
 (h:∀(h':nS) (tk:Nat),Fin h'->(∀b o,b<s.heap.objs.size->s.heap.get? b=some o->h'.get? b=some o)->Q (.ref s.heap.objs.size) {s with heap:=h',toks:=tk}) :
  gW (ib P w) A (call (.type "set") [.ref l]) Q E s:=by
 obtain⟨c,tl,hmro⟩:=z4.mro;have hmade:=PySem.F.called_set.made;have hsub:=z4.sub;refine ZU (codeAny_of_tree ?_);show gW _ _ (callAny (.type "set") _) _ _ _;refine eK ⟨Y2 _ (by decide +kernel),Vb PySem.F.entry_type_call ?_⟩
 rw[Around.under_plain (weight_type_call_type "set" [.ref l] []) rfl];have f:=z4.notType;have h2:=z4.canCreate;have hct:=PySem.F.typeCall_set_1 (.ref l)
 repeat (any_goals (first|assumption|wp_step))
 refine Vo (code_set_new_1 (.ref l) (E:=E) (Q₁:=fun obj g=>∃led:Bool,obj=.ref s.heap.objs.size/\g={s with heap:=s.heap.push {cls:=.type "set",dict:=none,data:=.set #[] 0 (.fresh 0 0 led)} }) fun led=>⟨led,rfl,rfl⟩) fun r g x=>?_
 cases r with
 | error e=>exact x
 | ok fl =>
  cases fl with
  | ret obj =>
   obtain⟨led,rfl,rfl⟩:=x;have D:(s.heap.push {cls:=.type "set",dict:=none,data:=.set #[] 0 (.fresh 0 0 led)}).get? s.heap.objs.size=some {cls:=.type "set",dict:=none,data:=.set #[] 0 (.fresh 0 0 led)}:=hG _ rfl;have T:Shared.TypeIs {s with heap:=s.heap.push {cls:=.type "set",dict:=none,data:=.set #[] 0 (.fresh 0 0 led)} } (.ref s.heap.objs.size) "set":=⟨_,D,rfl⟩
   have hli:=z4.init.lookup;have hbi:=z4.init.bind (.ref s.heap.objs.size)
   repeat (any_goals (first|assumption|wp_step))
   refine Vo (WZ (R:=wants (fun r i=>r=.none/\∃h' tk,i={s with heap:=h',toks:=tk} /\
     Fin h' /\
     (∀b o,b<s.heap.objs.size->s.heap.get? b=some o->h'.get? b=some o)) E) z4.init.plain PySem.F.entry_set_init (check_set_init_1 T ?_)) fun y i d=>?_
   ·obtain⟨U,p,q,nl,t⟩:=hl;obtain⟨ocls,m,odata,j⟩:=U;simp only at q t;subst q;subst t;have z:(s.heap.push {cls:=.type "set",dict:=none,data:=.set #[] 0 (.fresh 0 0 led)}).get? l=some {cls:=.type "list",dict:=m,data:=.seq items nl,slots:=j}:=eu _ p;have hsls:=PySem.F.sub_list_set;have hslf:=PySem.F.sub_list_frozenset;have hne:(YS "list" == YS "dict")=false:=by decide
    have u:(s.heap.push {cls:=.type "set",dict:=none,data:=.set #[] 0 (.fresh 0 0 led)}).IsList l items:=⟨_,z,rfl,nl,rfl⟩;unfold Vs.«set.__init__» noKeywords ZI
    generalize G:ZY=PI
    wp_walk
    subst G;refine UQ u (cn (wpAny_runValue ?_));have v:l<s.heap.objs.size:=eS p;have B:l≠(s.heap.push {cls:=.type "set",dict:=none,data:=.set #[] 0 (.fresh 0 0 led)}).objs.size:=by
     rw[VO];exact gs (V3 v)
    have H:s.heap.objs.size∉[(s.heap.push {cls:=.type "set",dict:=none,data:=.set #[] 0 (.fresh 0 0 led)}).objs.size,l]:=by
     rw[VO];simp only[ey,eP,hF,or_false,not_or];exact⟨gs (Vw _),Xc v⟩
    have C:((s.heap.push {cls:=.type "set",dict:=none,data:=.set #[] 0 (.fresh 0 0 led)}).push {cls:=.type "list_iterator",data:=.fields #[.ref l,.int 0 0]}).get? s.heap.objs.size=some {cls:=.type "set",dict:=none,data:=.set #[] 0 (.fresh 0 0 led)}:=eu _ D;refine S led _ _ _ rfl B H C (u.push _) ⟨_,hG _ rfl,rfl,rfl⟩ ?V
    case V =>
     intro s' hm k;obtain⟨h',g',d',J,K⟩:=s';have W:g'=s.gens:=hm.gens;have Y:d'=s.drawn:=hm.drawn;have Z:K=s.os:=hm.os;subst W;subst Y;subst Z;show gW _ _ _ _ _ _;refine eK ?_;show gW _ _ (ret qo) _ _ _;refine eK ⟨rfl,h',J,rfl,k,fun b o L e=>?_⟩
     have M:b≠s.heap.objs.size:=gs L;have N:b≠(s.heap.push {cls:=.type "set",dict:=none,data:=.set #[] 0 (.fresh 0 0 led)}).objs.size:=by
      rw[VO];exact gs (V3 L)
     refine hm.heap b o ?_ (eu _ (eu _ e));simp only[ey,eP,hF,or_false,not_or];exact⟨M,N⟩
   ·cases y with
    | error e=>exact d
    | ok n =>
     cases n with
     | ret r =>
      obtain⟨rfl,h',tk,rfl,k,O⟩:=d
      repeat (any_goals (first|assumption|wp_step))
      exact h _ _ k O
     | _=>exact d.elim
  | _=>exact x.elim
theorem HI(bs:List Bool):((ka bs.length).any fun i=>(bs[i]?).getD false)=bs.any id:=by
 induction bs with
 | nil=>rfl
 | cons b r a =>
  simp only[f',Yh,Wo,UH,<-a];rfl
theorem MM(g:X.calm=true):bK X (.builtin "any") (fun xs H Q=>∃(p:dR) (bs:List Bool),xs=[.ref p]/\Rd H p (.lst (bs.map V.bl))/\Q (.bl (bs.any id)) H):=by
 intro pins s σ H xs us Q I r h;obtain⟨p,bs,rfl,j,q⟩:=h;obtain⟨u,rfl,k⟩:=r.one;subst k;obtain⟨z,its,n,l,e⟩:=j.ok I.ai;have c:=u4 l;subst c;have d:s.heap.IsList p (bs.map xr).toArray:=⟨_,e,rfl,n,rfl⟩;have m:p<s.heap.objs.size:=eS e;refine call_any_walk (UQ d ⟨s.heap.objs.size,[s.heap.objs.size,p],[s.heap.objs.size],(bs.map xr).toArray.size,_,_,fun i=>(bs[i]?).getD false,rfl,
  Walks.list (A:=X.A.in1) (I.ok.hd g) _ p (gs m) (bs.map xr).toArray,⟨⟨_,hG _ rfl,rfl,rfl⟩,d.push _⟩,fun i v s' Q' E' a f=>?_,fun h' tk o=>?_⟩)
 ·have a:(bs.map xr)[i]?=some v:=by simpa using a
  rw[eo] at a;obtain⟨b,c,a⟩:=oM a;obtain rfl:=sO a;simp[c] at f;exact z0 f
 ·have t:(ka (bs.map xr).toArray.size).any (fun i=>(bs[i]?).getD false)=bs.any id:=by
   rw[eT,a7];exact HI bs
  rw[t];refine⟨.bl _,H,?_,rfl,q⟩;exact I.kept fun b x ex=>o b x (fun hm=>by rw[eP.mp hm] at ex;exact wa _ (eS ex)) (eu _ ex)
theorem ints_get:∀{a:List Int}{its:List bR}{i:Nat}{v:bR},aD (a.map V.int) its->its[i]?=some v->∃t,v=.int ((a[i]?).getD 0) t
 | [],_,i,v,h,e=>by cases h;simp at e
 | n::a,_,0,v,h,e=>by
  cases h with
  | cons r t =>
   obtain⟨tk,rfl⟩:=r;simp at e;exact⟨tk,e.symm⟩
 | n::a,_,i+1,v,h,e=>by
  cases h with
  | cons r t =>
   have:=ints_get (i:=i) (v:=v) t (by simpa using e)
   simpa using this
theorem Ew:∀{a:List eA}{its:List bR}{i:Nat}{v:bR},aD (a.map V.str) its->its[i]?=some v->∃t,v=.str ((a[i]?).getD UJ) t
 | [],_,i,v,h,e=>by cases h;simp at e
 | n::a,_,0,v,h,e=>by
  cases h with
  | cons r t =>
   obtain⟨tk,rfl⟩:=r;simp at e;exact⟨tk,e.symm⟩
 | n::a,_,i+1,v,h,e=>by
  cases h with
  | cons r t =>
   have:=Ew (i:=i) (v:=v) t (by simpa using e)
   simpa using this
noncomputable def gR(a:List Int):Int:=(a[argBest (fun i j=>decide ((a[i]?).getD 0>(a[j]?).getD 0)) (a.length-1)]?).getD 0
noncomputable def J6(a:List eA):Str:=(a[argBest (fun i j=>decide (((a[i]?).getD UJ).cps.toList<((a[j]?).getD UJ).cps.toList)) (a.length-1)]?).getD UJ
theorem N6{its:List bR}{s:dr}{p:dR}(c:p<s.heap.objs.size){o:wm}:∀b∈[s.heap.objs.size,p],b<(s.heap.push o).objs.size:=fun b a=>by
 rw[VO];simp at a
 rcases a with rfl|rfl
 ·exact Vw _
 ·exact V3 c
theorem Ih(l:X.calm=true):bK X (.builtin "max") (fun xs H Q=>∃(p:dR) (a:List Int),xs=[.ref p]/\Rd H p (.lst (a.map V.int))/\a≠[]/\Q (.int (gR a)) H):=by
 intro pins s σ H xs us Q I r h;obtain⟨p,a,rfl,m,f,q⟩:=h;obtain⟨u,rfl,o⟩:=r.one;subst o;obtain⟨z,its,n,c,e⟩:=m.ok I.ai;have g:s.heap.IsList p its.toArray:=⟨_,e,rfl,n,rfl⟩;have j:=eS e;have k:its.length=a.length:=by have:=c.length;simpa using this.symm
 have h0:0<a.length:=pB.mpr f;refine call_max_walk (UQ g ⟨s.heap.objs.size,[s.heap.objs.size,p],[s.heap.objs.size],its.toArray.size,_,_,_,rfl,
  Walks.list (A:=X.A.in1) (I.ok.hd l) _ p (gs j) its.toArray,⟨⟨_,hG _ rfl,rfl,rfl⟩,g.push _⟩,N6 (its:=its) j,by rw[eT];lia,CmpOf.ints_gt (fun i=>(a[i]?).getD 0) (fun i v d=>ints_get c (by simpa using d)),fun v h' tk d y=>?_⟩)
 obtain⟨t,rfl⟩:=ints_get c (show its[_]?=some v by simpa using d)
 refine⟨.int (gR a),H,?_,⟨t,?_⟩,q⟩
 ·exact I.kept fun b x ex=>y b x (fun hm=>by rw[eP.mp hm] at ex;exact wa _ (eS ex)) (eu _ ex)
 ·rw[k];rfl
noncomputable def lh:List Dat->Option (List Int)
 | []=>some []
 | .int x::r=>(lh r).map (x::·)
 | _::_=>none
theorem BA{K:fj}{H:Hp}:∀{ds:List Dat}{vs:List V}{ys:List Int},lh ds=some ys->ax K H ds vs->vs=ys.map V.int
 | [],_,_,e,r=>by obtain rfl:=sO e;exact r
 | d::ds,_,_,e,⟨v,vr,a,b,rs⟩=>by
  cases d with
  | int x =>
   obtain⟨ys',c,e⟩:=oM e;obtain rfl:=sO e;simp only[a,BA c rs];subst b;rfl
  | _=>exact nO e
def tV:List Dat->Option Res
 | [.lst ds]=>(jk ds).map fun bs=>.dat (.bl (bs.any id))
 | _=>none
theorem LH:CD X (fun xs H Q=>∃(p:dR) (bs:List Bool),xs=[.ref p]/\Rd H p (.lst (bs.map V.bl))/\Q (.bl (bs.any id)) H) tV:=by
 intro H0 ps Z σ H c vs ds o Q e S r k;delta tV at e;split at e
 ·obtain⟨bs,d,e⟩:=oM e;obtain rfl:=sO e;obtain⟨v,vr,rfl,⟨a,ws,rfl,b,rs⟩,f⟩:=r;subst f;rw[xg d rs] at b;exact⟨a,bs,rfl,Rd.mono S.sub b,k _ H c S (ag.refl _) rfl⟩
 ·exact nO e
def sD:List Dat->Option Res
 | [.lst ds]=>(lh ds).bind fun a=>if a=[] then none else some (.dat (.int (gR a)))
 | _=>none
theorem Gc:CD X (fun xs H Q=>∃(p:dR) (b:List Int),xs=[.ref p]/\Rd H p (.lst (b.map V.int))/\b≠[]/\Q (.int (gR b)) H) sD:=by
 intro H0 ps Z σ H f vs ds o Q e S r k;delta sD at e;split at e
 ·obtain⟨b,g,e⟩:=oA e;have e:=e
  split at e
  ·exact nO e
  ·rename_i c;obtain rfl:=sO e;obtain⟨v,vr,rfl,⟨a,ws,rfl,d,rs⟩,h⟩:=r;subst h;rw[BA g rs] at d;exact⟨a,b,rfl,Rd.mono S.sub d,c,k _ H f S (ag.refl _) rfl⟩
 ·exact nO e
theorem Hh{fa:AF}{p:u3}(a:X.calm=true)(b:Gl X "any")(hm:X.mg "any"=none)(c:bp X e [])(d:DA X [e] fa):DE X (.Call (.Name "any" p) [e] [] pos) (bY tV fa):=jK (MM a) LH b hm (by decide +kernel) d (by decide) rfl c rfl
theorem HR{fa:AF}{p:u3}(a:X.calm=true)(b:Gl X "max")(hm:X.mg "max"=none)(c:bp X e [])(d:DA X [e] fa):DE X (.Call (.Name "max" p) [e] [] pos) (bY sD fa):=jK (Ih a) Gc b hm (by decide +kernel) d (by decide) rfl c rfl
noncomputable def ltI(fs:List Int)(i j:Nat):Bool:=decide (fs.getD i 0<fs.getD j 0)
theorem JH{fs:List Int}(nd:fs.Nodup):Ord (ltI fs) fs.length where
 trans:=fun i j k c a=>decide_eq_true (Int.lt_trans (of_decide_eq_true c) (of_decide_eq_true a))
 total:=fun i j d f b=>by
  delta ltI;rw[dD d,dD f]
  by_cases h:fs[i]<fs[j]
  ·exact .inl (decide_eq_true h)
  ·refine .inr (decide_eq_true ?_)
   by_cases a:fs[j]<fs[i]
   ·exact a
   ·have e:fs[i]=fs[j]:=by lia
    exact absurd ((um nd).mp e) b
 fM:=fun i=>decide_eq_false (Int.lt_irrefl _)
def mO(K:fj)(H:Hp)(vs:List V)(fs:List Int):Prop:=vs.length=fs.length/\∀(i:Nat) (f:Int),fs[i]?=some f->∃a b,vs[i]?=some (.ref a)/\aV K H a b/\b[0]?=some (.int f)
def Kk(fs:List Int)(vs out:List V):Prop:=∃q:Array Nat,cK q vs.length/\dW (ltI fs) q vs.length/\out=q.toList.map fun i=>vs.getD i .aB
def Ej(K:fj):List V->Hp->VK->Prop:=fun xs H Q=>∃p vs fs,xs=[.ref p]/\Rd H p (.lst vs)/\mO K H vs fs/\fs.Nodup/\vs.length<64/\∀out,Kk fs vs out->∀l,H l=none->Q (.ref l) (upd H l (.lst out))
theorem uT{X:Cx}{j:List (dR×wm)}{p:St}{H:Hp}{s:dr}(I:Inv X j p H s):∀{fs:List Int}{vs:List V}{its:List bR},mO X.K H vs fs->aD vs its ->
  ∃c:List bR,XF s.heap its c/\c.length=fs.length/\(∀v∈c,∃x t,v=V' x t)/\∀(i:Nat) (f:Int),fs[i]?=some f->∃a o xs n t,its[i]?=some (.ref a)/\s.heap.get? a=some o/\o.data=.seq xs n/\xs[0]?=some (V' f t)
 | [],[],_,h,r=>by
  cases r;exact⟨[],.nil,rfl,fun v k=>by simp at k,fun i f e=>by simp at e⟩
 | [],_::_,_,h,_=>by simp[mO] at h
 | _::_,[],_,h,_=>by simp[mO] at h
 | f::fs,v::vs,_,h,r=>by
  cases r with
  | cons q rs =>
   obtain⟨a,ws,y,B,C⟩:=h.2 0 f rfl;obtain rfl:=sO y;subst q;have h':mO X.K H vs fs:=⟨by simpa using h.1,fun i g e=>by
    obtain⟨b,us,l,m,D⟩:=h.2 (i+1) g (by simpa using e)
    exact⟨b,us,by simpa using l,m,D⟩⟩
   obtain⟨c,k1,k2,k3,F⟩:=uT I h' rs;obtain⟨its,G,⟨o,ho,J,n,hd⟩,_⟩:=I.tuple B;obtain⟨u,L,M⟩:=G.get C;obtain⟨t,rfl⟩:=M;have d:its.toArray[0]?=some (V' f t):=by simpa using L
   refine⟨V' f t::c,.cons ho J hd d k1,by simp[k2],fun v k=>?_,fun i g e=>?_⟩
   ·rcases ey.mp k with z|z
    ·exact⟨f,t,z⟩
    ·exact k3 v z
   ·cases i with
    | zero =>
     simp at e;subst e;exact⟨a,o,_,n,t,rfl,ho,hd,d⟩
    | succ i =>
     obtain⟨b,N,xs,O,t',l,m⟩:=F i g (by simpa using e)
     exact⟨b,N,xs,O,t',by simpa using l,m⟩
theorem Hl(G:X.ex=[]):bK X (.builtin "sorted") (Ej X.K):=by
 intro pins s σ H xs us Q I r h;obtain⟨p,vs,fs,rfl,S,c,nd,J,q⟩:=h;obtain⟨u,rfl,U⟩:=r.one;subst U;refine xb G (T:=.type "int") I S J (by rw[c.1];exact JH nd) (by decide) (fun its B=>?_) (fun its B i j D F L h' n C V=>?_) q
 ·obtain⟨Y,Z,kl,ks,_⟩:=uT I c B;refine⟨Y,Z,by rw[kl];exact c.1.symm,fun v hv h=>?_⟩
  obtain⟨x,t,rfl⟩:=ks v hv;exact Xa rfl
 ·obtain⟨_,_,_,_,y⟩:=uT I c B;rw[c.1] at D F;obtain⟨a,o,xs,n1,t1,a1,a2,M,d⟩:=y i _ (cA D);obtain⟨b,o',ys,n2,t2,b1,b2,N,f⟩:=y j _ (cA F);have ea:its.getD i qo=.ref a:=by rw[mA,a1];rfl
  have eb:its.getD j qo=.ref b:=by rw[mA,b1];rfl
  show gW _ _ (keyLt' _ (its.getD i qo) (its.getD j qo)) C _ _;rw[ea,eb];refine aaA (n _ _ _ _ M a2) M (n _ _ _ _ N b2) N ?_;obtain⟨g,k,ex⟩:∃g k,xs.toList=g::k:=by
   cases hx:xs.toList with
   | nil =>
    rw[<-n7,hx] at d;exact nO d
   | cons g k=>exact⟨g,k,rfl⟩
  obtain⟨l,m,O⟩:∃l m,ys.toList=l::m:=by
   cases hy:ys.toList with
   | nil =>
    rw[<-n7,hy] at f;exact nO f
   | cons l m=>exact⟨l,m,rfl⟩
  rw[<-n7,ex] at d;rw[<-n7,O] at f;obtain rfl:=sO d;obtain rfl:=sO f;simp only[ex,O,WV];have R:fs[i]≠fs[j]:=fun z=>L ((um nd).mp z)
  refine ZH (aat ?_);simp only[beq_eq_false_iff_ne.mpr R];refine aaz (oneLt_int ?_);have:ltI fs i j=decide (fs[i]<fs[j]):=by unfold ltI;rw[dD D,dD F]
  simp only[<-this];exact V
noncomputable def mE:Dat->Option Int
 | .tup (.int x::_)=>some x
 | _=>none
noncomputable def firstsI:List Dat->Option (List Int)
 | []=>some []
 | d::r=>(mE d).bind fun x=>(firstsI r).map (x::·)
def g9(d:Dat):Int:=(mE d).getD 0
def fD(a b:Dat):Bool:=decide (g9 a<=g9 b)
def rP(ds:List Dat):List Dat:=ds.mergeSort fD
theorem A1:∀{ds:List Dat}{fs:List Int},firstsI ds=some fs->fs=ds.map g9/\∀d∈ds,∃x,mE d=some x
 | [],_,e=>by obtain rfl:=sO e;exact⟨rfl,fun d h=>by simp at h⟩
 | d::r,_,e=>by
  obtain⟨x,a,e⟩:=oA e;obtain⟨ys,b,e⟩:=oM e;obtain rfl:=sO e;obtain⟨c,f⟩:=A1 b;refine⟨by simp[g9,a,c],fun d' hd=>?_⟩
  rcases ey.mp hd with z|z
  ·exact⟨x,by simp only[z,a]⟩
  ·exact f d' z
theorem Du{K:fj}{H h:Hp}(s:ag h H):∀{ds:List Dat}{vs:List V}{fs:List Int},firstsI ds=some fs->ax K h ds vs->mO K H vs fs
 | [],_,_,e,r=>by
  obtain rfl:=sO e;rw[show _=[] from r]
  exact⟨rfl,fun i f e=>by simp at e⟩
 | d::ds,_,_,e,⟨v,vr,k,l,rs⟩=>by
  obtain⟨x,b,e⟩:=oA e;obtain⟨ys,m,e⟩:=oM e;obtain rfl:=sO e;obtain⟨n,o⟩:=Du s m rs;simp[k];refine⟨by simp[n],fun i f c=>?_⟩
  cases i with
  | zero =>
   simp at c;subst c;delta mE at b;split at b
   ·obtain rfl:=sO b;obtain⟨p,g,rfl,q,w1,wr,t,j,_⟩:=l;subst j;exact⟨p,g,rfl,aV.mono s q,by rw[t];rfl⟩
   ·exact nO b
  | succ i =>
   obtain⟨a,g,u,y⟩:=o i f (c)
   exact⟨a,g,by simpa using u,y⟩
theorem NK(a b c:Dat)(h1:fD a b=true)(h2:fD b c=true):fD a c=true:=by
 delta fD at *;simp at *
 lia
theorem K0(a b:Dat):(fD a b||fD b a)=true:=by
 delta fD;simp
 lia
theorem Hu{ds:List Dat}{q:Array Nat}(nd:(ds.map g9).Nodup)(P:cK q ds.length)(U:dW (ltI (ds.map g9)) q ds.length):(q.toList.map fun i=>ds.getD i .aB)=rP ds:=by
 have pm:(q.toList.map fun i=>ds.getD i .aB).Perm ds:=by
  have:=P.pm.map (fun i=>ds.getD i .aB)
  rw[vB] at this;exact this
 have m:∀i,i<ds.length->g9 (ds.getD i .aB)=(ds.map g9).getD i 0:=fun i c=>by
  rw[dD c,dD (by simpa using c)]
  simp
 have g:(q.toList.map fun i=>ds.getD i .aB).Pairwise (fun a b=>fD a b=true/\a∈ds/\b∈ds):=by
  rw[oy];intro i j c d n;have o:i<ds.length:=by rw[<-P.size];simpa using c
  have f:j<ds.length:=by rw[<-P.size];simpa using d
  refine⟨?_,pm.mem_iff.mp (UU _),pm.mem_iff.mp (UU _)⟩;have u:=U i j n f;have v:q.toList[i]'(by simpa using c)=q.getD i 0:=by
   simp only[nL,ma (by simpa using c)]
   simp
  have x:q.toList[j]'(by simpa using d)=q.getD j 0:=by
   simp only[nL,ma (by simpa using d)]
   simp
  simp only[z7,v,x];delta fD;simp only[m _ (P.lt i o),m _ (P.lt j f)];have u:=of_decide_eq_true u;exact decide_eq_true (Int.le_of_lt u)
 have k:(rP ds).Pairwise (fun a b=>fD a b=true/\a∈ds/\b∈ds):=by
  have h:=ua (le:=fD) NK K0 ds;refine UN (fun y z p=>⟨p,?_,?_⟩) h
  ·exact (hA ds fD).mem_iff.mp y
  ·exact (hA ds fD).mem_iff.mp z
 refine nX (fun a b l B=>?_) (pm.trans (hA ds fD).symm) g k
 have e:=XO (of_decide_eq_true l.1) (of_decide_eq_true B.1);obtain⟨i,c,r⟩:=qt l.2.1;obtain⟨j,d,t⟩:=qt l.2.2;have C:(ds.map g9)[i]'(by simpa using c)=(ds.map g9)[j]'(by simpa using d):=by simp[r,t,e]
 have D:=(um nd).mp C;subst D;simp only[<-r,t]
def qq:List Dat->Option Res
 | [.lst ds]=>(firstsI ds).bind fun fs=>if fs.Nodup/\ds.length<64 then some (.own (.lst (rP ds))) else none
 | _=>none
theorem O7:CD X (fun xs H Q=>Ej X.K xs H Q) qq:=by
 intro H0 ps Z σ H h vs ds o Q a S r k;delta qq at a;split at a
 ·obtain⟨fs,d,a⟩:=oA a;split at a
  ·rename_i c;obtain rfl:=sO a;obtain⟨v,vr,rfl,⟨p,j,rfl,m,rs⟩,n⟩:=r;subst n;have b:=rs.length;refine⟨p,j,fs,rfl,Rd.mono S.sub m,Du S.sub d rs,c.1,by rw[b];exact c.2,fun out ⟨q,P,U,t⟩ l hl=>?_⟩
   obtain⟨f,_⟩:=A1 d;subst f;simp[b] at P U;have u:=Hu c.1 P U;subst t;have g:=ax.pick rs q.toList (fun i x=>by rw[b];exact qu P i x)
   rw[u] at g;exact k (.ref l) _ h (S.made hl) (ag.refl _) ⟨l,rfl,⟨_,aU,g,S.dj hl⟩,(S.bI hl).2,(S.bI hl).1,S.dP hl⟩
  ·exact nO a
 ·exact nO a
theorem Bw{fa:AF}{p:u3}(a:X.ex=[])(b:Gl X "sorted")(hm:X.mg "sorted"=none)(c:bp X e [])(d:DA X [e] fa):DE X (.Call (.Name "sorted" p) [e] [] pos) (bY qq fa) :=
 jK (Hl a) O7 b hm (by decide +kernel) d (by decide) rfl c rfl
end
section
variable{X:Cx}
theorem Gz{o e:gi}{pos a:u3}{f:DF}{fa:AF}(g:X.A.units+65<uz)(b:VH o "index" X.env (eval o X.env)=eval o X.env)
 (d:pU X pos e)
 (c:(a.endLine==pos.line)=true)(hs:bp X e [])(ho:DD X o f)(h:DA X [e] fa):DD X (.Call (.Attribute o "index" a) [e] [] pos) (qy f fa) :=
 Nh ho h (fun i j=>sN XQ YG PySem.F.type_list_index (JG g) i j b d c hs rfl)
def zD(d:dR)(o:wm)(kvs:List (Key×V)):It:=⟨fun i H=>H d=some (.a9 o (.dK kvs))/\i<kvs.length,fun i H v a=>a=H/\∃k x,kvs[i]?=some (k,x)/\v=kV k,fun i H=>H d=some (.a9 o (.dK kvs))/\kvs.length<=i⟩
theorem OX{k:Key}{u:bR}(h:jA k u=true):RelV (kV k) u:=by
 rcases iL h with⟨i,t,rfl,rfl⟩|⟨x,t,rfl,rfl⟩
 ·exact⟨t,rfl⟩
 ·exact⟨t,rfl⟩
theorem Mr{P:iN}{w:nE}{K:fj}{L:gi}{d it:dR}{o:wm}{kvs:List (Key×V)}{vs:List (Key×bR)}{ep:Nat}(p:KV kvs vs)(hne:d≠it)(F:∀h:nS,h.get? d=some o->h.DictAt (cG P w) d vs ep) :
  Turn P w K L (zD d o kvs) [it] it (fun i h=>h.IsKeyIter it d i vs.length ep) where
 mem:=by simp
 obj:=fun i h st b a=>by
  have e:b=it:=by simpa using a
  subst e;obtain⟨o,e,c,d⟩:=st;exact⟨o,e,fun v z=>by rw[d] at z;contradiction⟩
 keep:=fun i h h' st k=>by
  obtain⟨o,e,c,d⟩:=st;exact⟨o,k it (by simp) o e,c,d⟩
 item:=by
  intro X q hw r G i f s J H E I j st t;subst q hw r;obtain⟨u,x,M,y,A,B⟩:=j it (by simp)
  obtain⟨hd,g⟩:=t;have C:=F s.heap (I.ai d _ hd).1;have m:i<vs.length:=by rw[<-p.length];exact g
  have N:=cA m;refine wpAny_pyNext_dict_item st C N fun key h' D n O=>?_
  have Q:Inv X f J H {s with heap:=h',toks:=s.toks}:=I.turned (fun b o a e=>(O.2 b a).trans e) u x y A B
  obtain⟨o',e,c,dd⟩:=id n;have R:kvs[i].1=vs[i].1:=by
   have:=congrArg (fun l=>l[i]?) p.keys
   simp only[eo,cA g,cA m] at this;exact Option.some.inj this
  exact⟨_,rfl,nJ e c dd rfl ⟨kV kvs[i].1,H,Q,by rw[R];exact OX D,⟨rfl,kvs[i].1,kvs[i].2,cA g,rfl⟩,n,fun b a=>(j b a).1⟩⟩
 done:=by
  intro X q hw r G i f s J H E I j st t;subst q hw r;obtain⟨u,x,M,y,A,B⟩:=j it (by simp)
  obtain⟨hd,g⟩:=t;have C:=F s.heap (I.ai d _ hd).1;exact wpAny_pyNext_dict_end (I.ok.hd G) st C (YC (by rw[<-p.length];exact g)) fun h' S=>⟨rfl,I.turned (fun b o a e=>S b o a e) u x y A B⟩
 self:=fun _ _ _ _ _ st h=>ZD st h
theorem Inv.a9{a:List (dR×wm)}{g:St}{H:Hp}{s:dr}{d:dR}{o:wm}{kvs:List (Key×V)}(I:Inv X a g H s)(e:H d=some (.dK kvs))(ho:s.heap.get? d=some o):Inv X a g (upd H d (.a9 o (.dK kvs))) s:=by
  have f:∀b u,H b=some u->u≠.dK kvs->b≠d:=fun b u q z y=>by rw[y,e] at q;obtain rfl:=sO q;exact z rfl
  have un:Un X.fs [] H (upd H d (.a9 o (.dK kvs))) s.heap s.heap :=
    ⟨fun b ob q _ _ _=>q,fun b ob q _ _ _=>⟨ob.slots,q⟩,fun b ob q n _=>by rw[aw (fun z=>by rw[z,e] at n;contradiction)];exact n,fun b ob q _=>⟨ob,q⟩,
     fun b xs q=>by rw[aw (f b _ q (by intro z;contradiction))];exact q,fun b ob u q=>by rw[aw (f b _ q (by intro z;contradiction))];exact q,fun b ps q=>⟨#[],by rw[aw (f b _ q (by intro z;contradiction)),q];simp⟩⟩
  have st:∀b u,cm X.prog X.w H s.heap b u->cm X.prog X.w (upd H d (.a9 o (.dK kvs))) s.heap b u:=fun b u x =>
    x.fW (fun c v _ q=>q) (fun c q=>by rw[aw (f c _ q (by intro z;contradiction))];exact q) fun c xs q=>by rw[aw (f c _ q (by intro z;contradiction))];exact q
  have ai:bP X.prog X.w (upd H d (.a9 o (.dK kvs))) s.heap:=fun b u q=>by
    by_cases h:b=d
    · subst h
      rw[aU] at q;obtain rfl:=sO q;exact⟨ho,st _ _ (I.ai _ _ e)⟩
    · rw[aw h] at q
      exact st _ _ (I.ai b u q)
  exact I.un (t':=s.toks) un ai
end
structure ko (x:eA):Prop where
 ok:True
noncomputable def Ry(i:Nat):IF:=fun Z=>match Z[i]? with
 | some (.own (.bM a))=>some (a.map fun k=>.str k.1,Z.set i (.dat (.dC a)))
 | _=>none
section
variable{X:Cx}{pos:u3}{P:iN}{w:nE}{A:n6}{R:Yq->dr->Prop}{I:dR}{fp wr:List dR}{G:Array XI->Array XI->Prop}{n:Nat}{Pr:Nat->bR->Prop}{St:Nat->dr->Prop}{E:bR->dr->Prop}{s:dr}{apos:u3}
def sk(i:Nat)(g:DF):DF:=fun Z=>match Z[i]? with
 | some (.dat (.dC a))=>(g Z).bind fun p=>match p.1 with
  | .str k=>(dc a k).map fun d=>(d,p.2)
  | _=>none
 | _=>none
theorem Rj{x:eA}{l:u3}{b:gi}{g:DF}{i:Nat}(hx:ko x)(m:X.N.findIdx? (·==x)=some i)(q:cc X.env.scope x)(r:X.A.units+1<uz)(hd:bb x)(c:cH x)(hs:ny b)(t:DD X b g):DD X (.Subscript (.Name x l) b pos) (sk i g):=by
 obtain⟨tb,u,z⟩:=t;refine⟨_,uf r (fg (eN m) q hd c) u hs,fun B C Z D H F d Z' Q e S k=>?_⟩
 unfold sk at e;split at e
 ·rename_i ks J;obtain⟨n,Z1,K,e⟩:=oB e;dsimp only at e;split at e
  ·rename_i f;obtain⟨d',L,e⟩:=oM e;cases e;obtain⟨v0,a0,p,o,kvs,rfl,M,O⟩:=S.dat i _ J;refine⟨_,a0,z B C Z D H F _ _ _ K S fun y T h j a U=>?_⟩
   subst U;obtain⟨v,V,W⟩:=((O.mono a).find f).1 d L;refine⟨p,v,rfl,?_,k v T h j a W⟩;rw[<-V];exact .inl ⟨kvs,rp f,.inr ⟨o,j.sub _ _ (a _ _ M)⟩,rfl,rfl⟩
  ·exact nO e
 ·exact nO e
theorem Rd.Ah{H:Hp}{a:dR}{xs ys:List V}(h:Rd H a (.lst xs))(h':Rd H a (.lst ys)):xs=ys:=by
 rcases h with h|⟨o,h⟩<;>rcases h' with h'|⟨o',h'⟩<;>rw[h] at h'<;>cases h'<;>rfl
noncomputable def gE(a:List Key)(v:Key):List Key:=if a.any (fun x=>decide (x=v)) then a else a++[v]
def dq(val:Nat->Key)(i:Nat):List Key:=((ka i).map val).foldl gE []
theorem zX(val:Nat->Key)(i:Nat):dq val (i+1)=gE (dq val i) (val i):=by unfold dq;rw[Xu,eW,Zs];rfl
theorem xY(val:Nat->Key):∀i,(dq val i).length<=i
 | 0=>eB _
 | i+1=>by
  have ih:=xY val i;rw[zX];delta gE;split
  ·lia
  ·simp;omega
theorem EM(a:List Key)(v k:Key):(gE a v).any (fun x=>decide (x=k))=(a.any (fun x=>decide (x=k))||decide (k=v)):=by
 delta gE
 by_cases h:a.any (fun x=>decide (x=v))=true
 ·rw[if_pos h]
  by_cases e:k=v
  ·subst e;rw[h];simp
  ·simp[e]
 ·rw[if_neg h,List.any_append]
  by_cases e:k=v
  ·subst e;simp
  ·have:¬v=k:=fun z=>e z.symm
   simp[e,this]
theorem Dw(a:List Key)(v:Key):(gE a v).length=if a.any (fun x=>decide (x=v)) then a.length else a.length+1:=by
 delta gE;split<;>simp
theorem Lf(W:WalksS P w A.in1 I fp wr G n Pr St)(S:dR)(q:S∉fp)(val:Nat->Key)(K:∀i v,Pr i v->jA (val i) v=true/\v.scannable=true)(hb:n+1<aau) :
  ∀(k i:Nat) (s:dr),n-i=k->i<=n->St i s->s.heap.SetOf (cG P w) S (fun a=>(dq val i).any fun x=>decide (x=a)) (dq val i).length ->
   (∀s',Moved (S::wr) G s s'->s'.heap.SetOf (cG P w) S (fun a=>(dq val n).any fun x=>decide (x=a)) (dq val n).length->R (.ok (.ret .none)) s') ->
   Wj (ib P w) A (.builtin "set.update.loop" ⟨[.ref S,.ref I],[]⟩) R s:=by
 have hw:S∉wr:=fun h=>q (W.sub _ h)
 have u:∀b∈wr,b∈S::wr:=fun b z=>fm _ z
 intro k;induction k with
 | zero =>
  intro i s L M st hs g;obtain rfl:i=n:=by lia
  refine Vb V1 ?_;refine cn (W.done s _ _ st fun s' hm=>?_)
  refine eK (g s' (hm.mono u) ?_);obtain⟨o,j,ep,t,ho,r⟩:=hs;exact⟨o,j,ep,t,hm.heap S _ hw ho,r⟩
 | succ k N =>
  intro i s L M st hs g;have c:i<n:=by omega
  refine Vb V1 ?_;refine cn (W.item i s _ _ c st fun v s' O y hm=>?_)
  obtain⟨d,B⟩:=K i v O;have C:s'.heap.SetOf (cG P w) S (fun a=>(dq val i).any fun x=>decide (x=a)) (dq val i).length:=by
   obtain⟨o,j,ep,Q,ho,r⟩:=hs;exact⟨o,j,ep,Q,hm.heap S _ hw ho,r⟩
  refine cn (sH ?_);refine sH (cn ((cG P w).pyHash d ?_));have room:(dq val i).length+1<scanBound:=by have:=xY val i;lia
  refine wpAny_setAddHashed_of d B C room fun h' f D=>?_
  have H:h'.SetOf (cG P w) S (fun a=>(dq val (i+1)).any fun x=>decide (x=a)) (dq val (i+1)).length:=by
   rw[zX,Dw];have e:(fun a=>(dq val i).any (fun x=>decide (x=a))||decide (a=val i))=fun a=>(gE (dq val i) (val i)).any fun x=>decide (x=a):=funext fun a=>(EM _ _ _).symm
   simp[<-e];exact D
  refine eK ⟨YO UD _,N (i+1) _ (by omega) c (W.frame _ s' _ _ y (WL _) fun b z o e=>?_) H fun J l p=>?_⟩
  ·rw[f.2 b (fun h:b=S=>q (h ▸ z))];exact e
  ·refine g J (Moved.trans W.gtrans ((hm.mono u).then_heap (WL _) fun b o z e=>?_) l) p
   rw[f.2 b (fun h:b=S=>z (h ▸ fv))];exact e
theorem Nx{l:dR}{items:Array bR}{val:Nat->Key}{Q:bR->dr->Prop}(hh:A.handled=none)(hl:s.heap.IsList l items)(m:∀i v,items[i]?=some v->jA (val i) v=true/\v.scannable=true)(p:items.size+1<aau)
 (h:∀(h':nS) (tk:Nat),h'.SetOf (cG P w) s.heap.objs.size (fun a=>(dq val items.size).any fun x=>decide (x=a)) (dq val items.size).length->(∀b o,b<s.heap.objs.size->s.heap.get? b=some o->h'.get? b=some o)->Q (.ref s.heap.objs.size) {s with heap:=h',toks:=tk}) :
  gW (ib P w) A (call (.type "set") [.ref l]) Q E s:=by
 refine Gr hl (fun led R I h1 eh c f d g hit k=>?_) h
 have j:A.in1.in1.in1.handled=none:=by simp[hh]
 exact Lf ((Walks.list j _ l c items).toS) s.heap.objs.size f val m p (items.size-0) 0 _ (by lia) (ro _) ⟨hit,g⟩ ⟨_,#[],0,_,d,⟨rfl,rfl,rfl⟩,rfl,fun e q=>by simp at q,fun k=>by simp[dq],by decide,by rfl,rfl⟩ k
def xm(P:iN)(w:nE)(a:dR)(n:Nat):HO:=.ext fun h=>n<4096/\∃S,h.SetOf (cG P w) a S n
def jW(ys:List eA):Nat:=(dq (fun i=>rp ((ys[i]?).getD UJ)) ys.length).length
theorem N1(l:X.calm=true):bK X (.type "set") (fun xs H Q=>∃(p:dR) (ys:List eA),xs=[.ref p]/\Rd H p (.lst (ys.map V.str))/\ys.length<1000/\∀a,H a=none->Q (.ref a) (upd H a (xm X.prog X.w a (jW ys)))):=by
 intro pins s σ H xs us Q I r h;obtain⟨p,ys,rfl,m,hz,q⟩:=h;obtain⟨u,rfl,x⟩:=r.one;subst x;obtain⟨z,its,n,d,e⟩:=m.ok I.ai;have y:s.heap.IsList p its.toArray:=⟨_,e,rfl,n,rfl⟩;have f:its.length=ys.length:=by have:=d.length;simpa using this.symm
 refine Nx (val:=fun i=>rp ((ys[i]?).getD UJ)) (I.ok.hd l) y (fun i v B=>?_) (by rw[eT];unfold aau;omega) fun h' tk c C=>?_
 ·obtain⟨t,rfl⟩:=Ew d (show its[i]?=some v by simpa using B)
  exact⟨Bm _ t,rfl⟩
 ·have hsz:its.toArray.size=ys.length:=by rw[eT];exact f
  rw[hsz] at c;have D:=I.ai.fresh (a:=s.heap.objs.size) (eB _);refine⟨.ref s.heap.objs.size,upd H s.heap.objs.size (xm X.prog X.w s.heap.objs.size (jW ys)),?_,rfl,q _ D⟩;have hle:jW ys<=ys.length:=xY _ _;refine I.laid (fun b o g=>C b o (eS g) g) (eB _) ⟨⟨by lia,_,c⟩,?_,fun h1 h2 ⟨F,S,o,j,ep,t,ho,r⟩ k=>⟨F,S,o,j,ep,t,k o ho,r⟩⟩
  obtain⟨o,j,ep,t,ho,_⟩:=c;exact⟨o,ho⟩
theorem N2:bK X (.builtin "len") (fun xs H Q=>∃(a:dR) (n:Nat),xs=[.ref a]/\H a=some (xm X.prog X.w a n)/\Q (.int n) H):=by
 intro pins s σ H xs us Q I r h;obtain⟨a,n,rfl,c,q⟩:=h;obtain⟨u,rfl,d⟩:=r.one;subst d;obtain⟨⟨hn,S,o,e,ep,t,ho,b,hd,hel,hmem,hb,f,hsz⟩,_,_⟩:=I.ai a _ c;subst hsz;exact call_len_set ho b hd f (by lia) ⟨.int e.size,H,I.tok _,⟨_,rfl⟩,q⟩
def sr(f:DF):DF:=fun Z=>(f Z).bind fun p=>match p.1 with
 | .lst ds=>(dv ds).bind fun ys=>if ys.length<1000 then some (.int (jW ys:Nat),p.2) else none
 | _=>none
theorem MS{e:gi}{f:DF}{p l i:u3}(y:X.calm=true)(z:Gl X "len")(hm:X.mg "len"=none)(m:Gl X "set")(o:X.mg "set"=none)
 (j:bp X e [])
 (q:lq [.Call (.Name "set" l) [e] [] i] X.env=(false,eval (.Call (.Name "set" l) [e] [] i) X.env)::lq [] X.env)(h:DD X e f):DD X (.Call (.Name "len" p) [.Call (.Name "set" l) [e] [] i] [] pos) (sr f):=by
 obtain⟨t,pt,B⟩:=h;refine⟨_,mT N2 z hm XC (dE (yf (N1 y) m o (by decide +kernel) (dE pt iY j) (by decide) rfl j rfl) iY q) (by decide) rfl q rfl,fun C D Z F H J d Z' Q g S k=>?_⟩
 obtain⟨c,Z1,K,g⟩:=oB g;dsimp only at g;split at g
 ·obtain⟨ys,L,g⟩:=oA g;split at g
  ·rename_i M;obtain⟨rfl,rfl⟩:=sP g;refine B C D Z F H J _ _ _ K S fun v H1 r u N O=>?_
   obtain⟨a,ws,rfl,x,rs⟩:=O;rw[lg L rs] at x;refine⟨a,ys,rfl,Rd.mono u.sub x,M,fun b T=>⟨b,jW ys,rfl,aU,?_⟩⟩
   exact k _ _ r (u.made T) N rfl
  ·exact nO g
 ·exact nO g
theorem FG{a b:gi}{f g:DF}(c:DD X a f)(d:DD X b g):DE X (.Compare a [.Is] [b] pos) (cw (xH false) f g):=oP QJ Jv c d (j6 _)
theorem Bf{c:Type}{enc:c->Dat}{g:GF}{fc:BF}{fe:DF}{j:DS}(put:c->DS)(keep:c->Bool)(val:c->Dat):∀(xs:List c) (a:List Dat) (Z:DS),a.length+xs.length<=dk ->
  (∀x∈xs,∀Z,(Z=j\/∃y,Z=put y)->g (enc x) Z=some (put x))->(∀x∈xs,fc (put x)=some (keep x,put x))->(∀x∈xs,keep x=true->fe (put x)=some (val x,put x))->(∀x∈xs,noOwn (put x)=true)->(Z=j\/∃y,Z=put y) ->
  ∃d,compLoop g fc fe (xs.map enc) a Z=some (a++(xs.filter keep).map val,d)
 | [],a,Z,_,_,_,_,_,_=>⟨Z,by simp[compLoop]⟩
 | x::xs,a,Z,u,k,l,m,o,hd=>by
  simp at u;have p:=k x (fv ..) Z hd;have q:=l x (fv ..);have r:=o x (fv ..);have f:=fun h (t:h.length+xs.length<=dk)=>Bf put keep val xs h (put x) t (fun y b=>k y (fm _ b)) (fun y b=>l y (fm _ b)) (fun y b=>m y (fm _ b)) (fun y b=>o y (fm _ b)) (.inr ⟨x,rfl⟩)
  cases i:keep x with
  | false =>
   obtain⟨d,e⟩:=f a (by omega)
   refine⟨d,?_⟩;show (g (enc x) Z).bind _=_;rw[p];show (fc (put x)).bind _=_;rw[q,i];show (if noOwn (put x)=true then compLoop g fc fe (xs.map enc) a (put x) else none)=_
   rw[if_pos r,e,P',i];simp
  | true =>
   obtain⟨d,e⟩:=f (a++[val x]) (by rw[eH];simp;omega)
   refine⟨d,?_⟩;show (g (enc x) Z).bind _=_;rw[p];show (fc (put x)).bind _=_;rw[q,i];show (fe (put x)).bind _=_;rw[m x (fv ..) i];show (if a.length<dk/\noOwn (put x)=true then _ else none)=_
   rw[if_pos ⟨by omega,r⟩,e,P',i]
   simp
theorem oW{a:Type}{enc:a->Dat}{caps:List (Option Nat)}{fi:IF}{g:GF}{fc:BF}{fe:DF}{xs:List a}{Z Z1 Z2:DS}(put:a->DS)(keep:a->Bool)(val:a->Dat)(b:fi Z=some (xs.map enc,Z1))(c:a9 none caps Z1=Z2)(d:xs.length<=dk)
 (f:∀x∈xs,∀Z,(Z=bX caps Z2\/∃y,Z=put y)->g (enc x) Z=some (put x))(h:∀x∈xs,fc (put x)=some (keep x,put x))(i:∀x∈xs,keep x=true->fe (put x)=some (val x,put x))(j:∀x∈xs,noOwn (put x)=true) :
  dm caps none fi g fc fe Z=some (.own (.lst ((xs.filter keep).map val)),Z2):=by
 obtain⟨Z',e⟩:=Bf put keep val xs [] (bX caps Z2) (by simpa using d) f h i j (.inl rfl)
 exact Co b c e
theorem gZ{a:Type}{enc:a->Dat}{caps:List (Option Nat)}{fi:IF}{g:GF}{fe:DF}{xs:List a}{Z Z1 Z2:DS}(put:a->DS)(val:a->Dat)(b:fi Z=some (xs.map enc,Z1))(c:a9 none caps Z1=Z2)(d:xs.length<=dk)
 (e:∀x∈xs,∀Z,(Z=bX caps Z2\/∃y,Z=put y)->g (enc x) Z=some (put x))(f:∀x∈xs,fe (put x)=some (val x,put x))(h:∀x∈xs,noOwn (put x)=true) :
  dm caps none fi g (fun Z=>some (true,Z)) fe Z=some (.own (.lst (xs.map val)),Z2):=by
 have:=oW (enc:=enc) (caps:=caps) (fi:=fi) (g:=g) (fc:=fun Z=>some (true,Z)) (fe:=fe) (xs:=xs) (Z:=Z) put (fun _=>true) val b c d e (fun _ _=>rfl) (fun x i _=>f x i) h
 rw[YY.mpr (by intros;rfl)] at this
 exact this
theorem zL{a:Type}(f:a->Int):∀cs:List a,lh (cs.map fun c=>.int (f c))=some (cs.map f)
 | []=>rfl
 | c::cs=>by
  show (lh (cs.map fun c=>.int (f c))).map (f c::·)=_
  rw[zL f cs];rfl
theorem qA{a:Type}(f:a->eA):∀cs:List a,dv (cs.map fun c=>.str (f c))=some (cs.map f)
 | []=>rfl
 | c::cs=>by
  show (dv (cs.map fun c=>.str (f c))).map (f c::·)=_
  rw[qA f cs];rfl
theorem GG{a:Type}(f:a->Bool)(cs:List a):mo [.lst (cs.map fun c=>.bl (f c))]=some (.dat (.bl (cs.all f))):=by
 show (jk _).map _=_;rw[tH f];simp
theorem PR{a:Type}(f:a->Bool)(cs:List a):tV [.lst (cs.map fun c=>.bl (f c))]=some (.dat (.bl (cs.any f))):=by
 show (jk _).map _=_;rw[tH f];simp
theorem NS{a:Type}(f:a->Int){cs:List a}(h:cs≠[]):sD [.lst (cs.map fun c=>.int (f c))]=some (.dat (.int (gR (cs.map f)))):=by
 show (lh _).bind _=_;rw[zL f];simp_all
theorem wR{a:Type}{f:DF}{Z Z1:DS}{cs:List a}(g:a->eA)(h:f Z=some (.lst (cs.map fun c=>.str (g c)),Z1))(b:cs.length<1000):sr f Z=some (.int (jW (cs.map g):Nat),Z1):=by
 delta sr;rw[h];show (dv _).bind _=_;rw[qA g];simp_all
theorem AH:∀(more a:List (Key×V)),((a++more).map (·.1)).Nodup->kR a more=a++more
 | [],a,_=>by show a=_;rw[r4]
 | p::r,a,h=>by
  have e:putK a p.1 p.2=a++[p]:=by
   delta putK;rw[if_neg];intro z;obtain⟨q,b,e⟩:=sj.mp z;have e:q.1=p.1:=by simpa using e
   rw[eW,iR] at h;exact h.2.2 q.1 (bg.mpr ⟨q,b,rfl⟩) p.1 (by simp) e
  show kR (putK a p.1 p.2) r=_;simp only[e,AH r (a++[p]) (by rw[ph];exact h),ph]
  rfl
noncomputable def qj:List Dat->Option Res
 | [.lst ds]=>some (.dat (.tup ds))
 | _=>none
theorem NT:CD X (fun xs H Q=>∃p ys,xs=[.ref p]/\((cf X.K H p ys/\∀l,H l=none->Q (.ref l) (upd H l (.tup ys)))\/(aV X.K H p ys/\Q (.ref p) H))) qj:=by
 intro H0 ps Z σ H Hi vs ds o Q e S r k;delta qj at e;split at e
 ·obtain rfl:=sO e;obtain⟨v,vr,rfl,⟨a,b,rfl,c,rs⟩,d⟩:=r;subst d;refine⟨a,b,rfl,.inl ⟨.inl (Rd.mono S.sub c),fun l hl=>?_⟩⟩
  obtain⟨f,s4⟩:=S.laid hl;exact k (.ref l) _ _ f s4 ⟨l,_,rfl,aV.of aU,ax.mono s4 rs⟩
 ·exact nO e
theorem FC{e:gi}{fa:AF}{p:u3}(a:Gl X "tuple")(hm:X.mg "tuple"=none)(b:bp X e [])(c:DA X [e] fa):DE X (.Call (.Name "tuple" p) [e] [] pos) (bY qj fa):=qX AG NT a hm (by decide +kernel) c (by decide) rfl b rfl
end
section
open Sem (wp)
theorem Ph:V8 (.type "list") "keys"=pure none:=by rw[typeLookup_type,builtinLookup_eq_fast];kernel_rfl
theorem C8:entryFor table "dict.update.loop"=some Vs.«dict.update.loop»:=entryFor_of_tree (by kernel_rfl)
theorem rl:plainId "dict.update.loop"=true:=by decide +kernel
theorem Hv{prog:iN}{w:nE}{A:n6}{E:bR->dr->Prop}{s:dr}{a:dR}{xs:Array bR}{name:eA}{Q:Option bR->dr->Prop}
 (f:s.heap.IsList a xs)(hd:∀o,s.heap.get? a=some o->o.dict=none)(j:V8 (.type "list") name=pure none)(l:(["__module__","__name__","__qualname__","__doc__","__annotations__"]:List eA).contains name=false)(r:A.handled=none)
 (h:∀h' tk,(∀b o,s.heap.get? b=some o->h'.get? b=some o)->Q none {s with heap:=h',toks:=tk})(hsz:name.length+100<=sizeLine:=by size_fits) :
  gW (ib prog w) A (ZG (.ref a) name) Q E s:=by
 obtain⟨o,f,p,k,i⟩:=f;have hd:=hd o f;obtain⟨c,bM,dat,sl⟩:=o;subst p i hd;obtain⟨t,g,d,tk,os⟩:=s;have q:∀m,(⟨t,g,d,m,os⟩:dr).TypeIs (.ref a) "list":=fun _=>⟨_,f,rfl⟩
 have f1:=sub_AttributeError;have f3:=Yt.lookup;have f4:=F.slot_list_getattribute.bind (.ref a);have f5:=am_list_getattr_none;unfold ZG getAttrBy? getAttrBy
 repeat (any_goals (first|assumption|exact q _|((with_reducible show gW _ _ (call (Vk "list.__getattribute__") _ _) _ _ _);refine Xj Yt (q _) am_entry_list_getattribute (F.args_list_getattribute_2 _ _) (meets_getattribute_miss_list a xs k sl name _ j l hsz) ⟨f,r,fun h' m e n=>?_⟩)|wp_step))
 obtain⟨t',u',he⟩:=n.there;show gW _ _ (ZZ _ _ _ _ _ _ _) _ _ _;unfold ZZ
 repeat (any_goals (first|assumption|wp_step))
 exact h _ _ n.of.keeps
section
variable{prog:iN}{w:nE}{K:Type}[DecidableEq K]{knd:KeyKind prog w K}{A:n6}{E:bR->dr->Prop}{s:dr}
theorem Ht{a:dR}{k v:bR}{Q:List bR->dr->Prop}(h:Vv s.heap a #[k,v])(q:Q [k,v] s):gW (ib prog w) A (Xi (.ref a)) Q E s:=by
 obtain⟨o,ho,b,n,hd⟩:=h;refine cn (Za (⟨o,ho,b⟩) ?_)
 refine cn (wpAny_seqItems ho hd ?_);exact eK q
structure vF (knd:KeyKind prog w K) (h:nS) (u:bR) (kv:K×bR) (a:dR) (k:bR):Prop where
 at_:u=.ref a
 tup:Vv h a #[k,kv.2]
 key:knd.is kv.1 k=true
theorem ID{R:Yq->dr->Prop}{I l d:dR}(hh:A.handled=none)(y:l≠I)(h:d≠I)(N:d≠l){items:Array bR}{more:List (K×bR)}(hl:more.length=items.size)(hz:more.length<=dk) :
  ∀(m i:Nat) (s:dr),items.size-i=m->i<=items.size->s.heap.IsListIter I l i->s.heap.IsList l items->s.heap.DictOf knd d (Zf [] (more.take i)) ->
   (∀(j:Nat) (u:bR) (x:K×bR),items[j]?=some u->more[j]?=some x->∃a k,vF knd s.heap u x a k/\a≠I/\a≠d) ->
   (∀h' tk,h'.DictOf knd d (Zf [] more)->(∀b o,b≠I->b≠d->s.heap.get? b=some o->h'.get? b=some o)->R (.ok (.ret .none)) {s with heap:=h',toks:=tk}) ->
   ∀(n:Int) (t:Tok),Wj (ib prog w) A (.builtin "dict.update.loop" ⟨[.ref d,.ref I,.int n t,.none],[]⟩) R s:=by
 intro m;induction m with
 | zero =>
  intro i s hm Z st D hd F G n t;have O:i=items.size:=by omega
  subst O;refine Vb C8 ?_;delta Vs.«dict.update.loop»
  have W:=Walks.list (prog:=prog) (w:=w) (A:=A.in1) (by simp[hh]) I l y items
  refine cn (W.done s _ _ ⟨st,D⟩ fun h' tk k=>?_)
  refine cn (eK ?_);rw[Wm (by lia)] at hd
  refine eK (G h' tk ?_ fun b o f H e=>k b o (by simpa using f) e)
  obtain⟨o,J,ep,ho,r⟩:=hd;exact⟨o,J,ep,k d o (by simpa using h) ho,r⟩
 | succ m ih =>
  intro i s hm Z st D hd F G n t;have z:i<items.size:=by omega
  refine Vb C8 ?_;delta Vs.«dict.update.loop»
  have W:=Walks.list (prog:=prog) (w:=w) (A:=A.in1) (by simp[hh]) I l y items
  refine cn (W.item i s _ _ z ⟨st,D⟩ fun v f tk hv B k1=>?_)
  have C:more[i]?=some more[i]:=cA (by omega)
  obtain⟨a,k,L,na,nd⟩:=F i v _ hv C;have ev:=L.at_;subst ev;have q:∀b o,b≠I->s.heap.get? b=some o->f.get? b=some o:=fun b o g e=>k1 b o (by simpa using g) e
  have P:f.DictOf knd d (Zf [] (more.take i)):=by
   obtain⟨o,J,ep,ho,r⟩:=hd;exact⟨o,J,ep,q d o h ho,r⟩
  have Q:Vv f a #[k,more[i].2]:=by
   obtain⟨o,ho,r⟩:=L.tup;exact⟨o,q a o na ho,r⟩
  have hsz:(Zf [] (more.take i)).length<=sizeLine:=by
   have:=merged_length_le ([]:List (K×bR)) (more.take i);simp at this
   lia
  refine cn (sH (cn (wpAny_tryCatch (Ht Q ?_))));refine sH (wpAny_dictSet_pairs L.key P fun H S M=>?_)
  have k2:∀b o,b≠I->b≠d->s.heap.get? b=some o->H.get? b=some o:=fun b o g c e=>(M.2 b c).trans (q b o g e)
  refine eK ⟨YO rl _,ih (i+1) {s with heap:=H,toks:=tk+1} (by omega) z ?_ ?_ ?_ ?_ ?_ _ _⟩
  ·obtain⟨o,ho,r⟩:=B.1;exact⟨o,(M.2 I (Ne.symm h)).trans ho,r⟩
  ·obtain⟨o,ho,r⟩:=B.2;exact⟨o,(M.2 l (Ne.symm N)).trans ho,r⟩
  ·rw[merged_take_succ _ _ _ _ C];exact S
  ·intro j u x hu T;obtain⟨a,k,p,U,V⟩:=F j u x hu T;refine⟨a,k,⟨p.at_,?_,p.key⟩,U,V⟩;obtain⟨o,ho,r⟩:=p.tup;exact⟨o,k2 a o U V ho,r⟩
  ·intro h' X Y k';exact G h' X Y fun b o g c e=>k' b o g c (k2 b o g c e)
theorem Nn{l:dR}{items:Array bR}{more:List (K×bR)}{Q:bR->dr->Prop}(hh:A.handled=none)(v:s.heap.IsList l items)(hd:∀o,s.heap.get? l=some o->o.dict=none)(hl:more.length=items.size)(H:more.length<=dk)
 (I:∀(j:Nat) (u:bR) (m:K×bR),items[j]?=some u->more[j]?=some m->∃a k,vF knd s.heap u m a k)
 (h:∀h' tk,h'.DictOf knd s.heap.objs.size (Zf [] more)->(∀b o,s.heap.get? b=some o->h'.get? b=some o)->Q (.ref s.heap.objs.size) {s with heap:=h',toks:=tk}) :
  gW (ib prog w) A (call (.type "dict") [.ref l]) Q E s:=by
 refine callType_codes (Q₁:=fun obj f=>obj=.ref s.heap.objs.size/\f={s with heap:=s.heap.push {cls:=.type "dict",data:=.dict #[]} }) F.kt_called_dict (F.kt_typeCall_dict_1 _) F.entry_dict_init (kt_code_dict_new _ ⟨rfl,rfl⟩) ?_
 rintro obj f ⟨rfl,rfl⟩;have c:(s.heap.push {cls:=.type "dict",data:=.dict #[]}).DictOf knd s.heap.objs.size []:=abg s.heap;have g:=v.push {cls:=.type "dict",data:=.dict #[]};have n:=let ⟨_,ho,_⟩:=v;eS ho
 have x:∀o,(s.heap.push {cls:=.type "dict",data:=.dict #[]}).get? l=some o->o.dict=none:=fun o e=>by
  obtain⟨o',ho,r⟩:=v;rw[eu _ ho] at e;obtain rfl:=sO e;exact hd _ ho
 refine⟨c.typeIs,F.args_dict_init_2 _ _,?_⟩;delta Vs.«dict.__init__»
 refine cn ?_;refine cn (Zt c.typeIs ?_);refine eK ?_;refine cn (Za g.typeIs ?_)
 refine cn (Hv g x Ph (by decide +kernel) (by simp[hh]) (fun i tk k1=>?_) (by decide +kernel))
 refine cn (wpAny_rule ?_);have q:i.IsList l items:=by
  obtain⟨o,ho,r⟩:=g;exact⟨o,k1 _ _ ho,r⟩
 refine cn (UQ (s:={s with heap:=i,toks:=tk}) q ?_)
 have t:i.DictOf knd s.heap.objs.size []:=by
  obtain⟨o,y,ep,ho,r⟩:=c;exact⟨o,y,ep,k1 _ _ ho,r⟩
 have d:s.heap.objs.size<i.objs.size:=by
  obtain⟨o,y,ep,ho,r⟩:=t;exact eS ho
 have z:∀b o,s.heap.get? b=some o->i.get? b=some o:=fun b o e=>k1 b o (eu _ e)
 refine eK ⟨YO rl _,?_⟩;refine ID (knd:=knd) (by simp[hh]) (gs (Ws n d)) (gs d) (Xc n) hl H items.size 0 _ (by lia) (ro _) ⟨_,hG _ rfl,rfl,rfl⟩ (q.push _) ?_ ?_ ?_ _ _
 ·exact t.push _
 ·intro j u m J B;obtain⟨a,k,p⟩:=I j u m J B;have C:=let ⟨_,ho,_⟩:=p.tup;eS ho
  refine⟨a,k,⟨p.at_,?_,p.key⟩,gs (Ws C d),gs C⟩;obtain⟨o,ho,r⟩:=p.tup;exact⟨o,eu _ (z _ _ ho),r⟩
 ·intro h' D G L;refine⟨rfl,h h' D G fun b o e=>L b o ?_ ?_ (eu _ (z _ _ e))⟩
  ·exact gs (Ws (eS e) d)
  ·exact gs (eS e)
end
end
section
variable{X:Cx}{pins:List (dR×wm)}{σ:St}{H:Hp}{s:dr}{pos:u3}
def lQ(K:fj)(H:Hp)(r:V)(b:Key×V):Prop:=∃a,r=.ref a/\aV K H a [kV b.1,b.2]
theorem yF(I:Inv X pins σ H s):∀{c:List V}{its:List bR}{kvs:List (Key×V)},aD c its->Vp (lQ X.K H) c kvs->∃more:List (Key×bR),KV kvs more/\Vp (fun u d=>∃a k,vF (cG X.prog X.w) s.heap u d a k) its more
 | _,_,_,.nil,.nil=>⟨[],.nil,.nil⟩
 | _,_,_,.cons e f,.cons (b:=d) g h=>by
  obtain⟨more,i,j⟩:=yF I f h;obtain⟨a,rfl,l⟩:=g;subst e;obtain⟨its',m,tup,_⟩:=I.tuple l;cases m with
  | cons n o =>
   cases o with
   | cons p q =>
    cases q;rename_i k v;exact⟨(d.1,v)::more,.cons ⟨rfl,p⟩ i,.cons ⟨a,k,rfl,by simpa using tup,nY n⟩ j⟩
theorem vh{c d:Type}{F:c->d->Prop}:∀{l₁:List c}{l₂:List d},Vp F l₁ l₂->∀(j:Nat) a b,l₁[j]?=some a->l₂[j]?=some b->F a b
 | _,_,.nil,j,a,b,h,_=>by simp at h
 | _,_,.cons e t,0,a,b,h,h'=>by
  simp at h h';subst h h';exact e
 | _,_,.cons e t,j+1,a,b,h,h'=>vh t j a b (h) (h')
theorem pE{a b:Type}{F:a->b->Prop}:∀{l₁:List a}{l₂:List b},Vp F l₁ l₂->l₁.length=l₂.length
 | _,_,.nil=>rfl
 | _,_,.cons _ t=>by simp only[f',f',pE t]
def Bb(K:fj):List V->Hp->VK->Prop:=fun xs H Q=>∃p a kvs,xs=[.ref p]/\Rd H p (.lst a)/\Vp (lQ K H) a kvs/\∀q,H q=none->Q (.ref q) (upd H q (.dK (kR [] kvs)))
theorem HH(f:X.calm=true):bK X (.type "dict") (Bb X.K):=by
 intro pins s σ H xs us Q I r h;obtain⟨p,rows,kvs,rfl,g,c,q⟩:=h;obtain⟨u,rfl,i⟩:=r.one;subst i;obtain⟨z,its,n,k,d⟩:=g.ok I.ai;obtain⟨more,b,pm⟩:=yF I k c;have l:=pE pm;have e2:=pE b;have e3:=pE c;have m:(kR [] kvs).length<=sizeLine:=by
  have:=yx kvs [];simp at this;omega
 refine Nn (I.ok.hd f) ⟨_,d,rfl,n,rfl⟩ (fun o e=>by rw[d] at e;obtain rfl:=sO e;rfl) (by simp[l]) (by omega) (fun j u b t v=>vh pm j u b (by simpa using t) v) fun h' tk dd kp=>?_
 exact⟨.ref s.heap.objs.size,_,I.laid kp (eB _) (uD m (beq_eq_false_iff_ne.mpr (Ne.symm (gs I.xC))) (b.merge .nil) dd),rfl,q _ (I.ai.fresh (eB _))⟩
def Ky(te:TE):TI:=fun σ H R=>te σ H fun v a=>∃d o kvs,v=.ref d/\a d=some (.a9 o (.dK kvs))/\R (zD d o kvs) a
theorem Q9{k e:gi}{te:TE}(l:PE X e te):PI X k e (Ky te):=by
 intro pins s σ H R I h;refine aC (l pins s σ H _ I h) fun v a ⟨y,H1,c,m,n⟩=>?_
 obtain⟨d,o,kvs,rfl,hd,q⟩:=n;subst m;obtain⟨ho,z,lo,vs,p,i⟩:=c.ai d _ hd;obtain⟨ep,dat⟩:=i.dictAt;obtain⟨o',r,f,g⟩:=id dat;rw[ho] at f;obtain rfl:=sO f;have t:∀h:nS,h.get? d=some o->h.DictAt (cG X.prog X.w) d vs ep:=fun h e=>⟨o,r,e,g⟩
 have j:=eS ho;refine wpAny_pyIter_dict lo dat ⟨a.heap.objs.size,[a.heap.objs.size],_,_,_,rfl,c.kept fun b o e=>eu _ e,Mr p (gs j) t,⟨_,hG _ rfl,rfl,rfl⟩,fun b u=>?_,q⟩
 rw[show b=a.heap.objs.size by simpa using u]
 exact c.la (eB _) (c.ai.fresh (eB _))
noncomputable def mn:List Dat->Option (List (eA×Dat))
 | []=>some []
 | .tup [.str k,d]::r=>(mn r).map fun a=>(k,d)::a
 | _=>none
def rj:List Dat->Option Res
 | [.bM a]=>some (.own (.bM a))
 | [.lst ds]=>(mn ds).bind fun a=>if (a.map (·.1)).Nodup then some (.own (.bM a)) else none
 | _=>none
theorem BK{K:fj}{H:Hp}:∀{ds:List Dat}{vs:List V}{b:List (eA×Dat)},mn ds=some b->ax K H ds vs->∃kvs,bu K H b kvs/\Vp (lQ K H) vs kvs
 | [],_,_,e,r=>by
  obtain rfl:=sO e;cases (r)
  exact⟨[],rfl,.nil⟩
 | d::ds,_,_,e,r=>by
  unfold mn at e;split at e
  ·contradiction
  ·rename_i k d' r' h;cases h;obtain⟨b,f,e⟩:=oM e;obtain rfl:=sO e;obtain⟨v,vr,rfl,⟨a,ws,rfl,g,rs⟩,i⟩:=r;obtain⟨kvs,j,l⟩:=BK f i;obtain⟨v1,r1,rfl,m,c,r2,rfl,n,o⟩:=rs;subst m;cases (o)
   exact⟨(rp k,c)::kvs,⟨c,kvs,rfl,n,j⟩,.cons ⟨a,rfl,g⟩ l⟩
  ·exact nO e
theorem lQ.mono{K:fj}{H b:Hp}(s:ag H b){vs:List V}{kvs:List (Key×V)}(h:Vp (lQ K H) vs kvs):Vp (lQ K b) vs kvs:=Paired.nH h fun _ _ ⟨a,e,q⟩=>⟨a,e,aV.mono s q⟩
theorem Qo:CD X (fun xs H Q=>(fun xs H Q=>∃a kvs,xs=[.ref a]/\Rd H a (.dK kvs)/\∀p,H p=none->Q (.ref p) (upd H p (.dK kvs))) xs H Q\/Bb X.K xs H Q) rj:=by
 intro g i Z σ H c vs ds o Q e S r k;delta rj at e;split at e
 ·rename_i d;exact .inl (Ka g i Z σ H c vs [.bM d] o Q e S r k)
 ·obtain⟨d,j,e⟩:=oA e;split at e
  ·rename_i nd;obtain rfl:=sO e;obtain⟨v,vr,rfl,⟨p,l,rfl,m,rs⟩,n⟩:=r;subst n;obtain⟨kvs,f,t⟩:=BK j rs;have u:(kvs.map (·.1)).Nodup:=by
    rw[rX f];exact gj.mpr (nd.imp fun h z=>h (Sum.inr.inj z))
   refine .inr ⟨p,l,kvs,rfl,Rd.mono S.sub m,lQ.mono S.sub t,fun q b=>?_⟩
   simp[AH kvs [] (by simpa using u),ZL]
   exact k (.ref q) _ c (S.made b) (ag.refl _) ⟨q,rfl,⟨kvs,aU,f,S.dj b⟩,(S.bI b).2,(S.bI b).1,S.dP b⟩
  ·exact nO e
 ·exact nO e
theorem IW{e:gi}{fa:AF}{p:u3}(a:X.calm=true)(b:Gl X "dict")(hm:X.mg "dict"=none)(c:bp X e [])(d:DA X [e] fa):DE X (.Call (.Name "dict" p) [e] [] pos) (bY rj fa):=qX (bK.or NM (HH a)) Qo b hm (by decide +kernel) d (by decide) rfl c rfl
noncomputable def Ec(i:Nat):IF:=fun Z=>match Z[i]? with
 | some (.dat (.dC a))=>some (a.map fun k=>.str k.1,Z)
 | _=>none
theorem EK{r:gi}{x:eA}{t:u3}{i:Nat}(hx:ko x)(u:X.N.findIdx? (·==x)=some i)(w:cc X.env.scope x)(hd:bb x)(h:cH x):cX X r (.Name x t) (Ec i):=by
 refine⟨_,Q9 (fg (eN u) w hd h),fun H0 ps Z σ H Hi items Z' R b S k=>?_⟩
 unfold Ec at b;split at b
 ·rename_i l e;obtain⟨rfl,rfl⟩:=sP b;obtain⟨v,z,p,o,kvs,rfl,f,g⟩:=S.dat i _ e;refine⟨_,z,p,o,kvs,rfl,S.sub _ _ f,k _ _ _ S (ag.refl _) fun j H2 m=>⟨fun d c=>?_,fun hl=>⟨m _ _ f,?_⟩⟩⟩
  ·have A:j<l.length:=by have:=(bt.mp c).1;simpa using this
   have hl:=bu.length g;refine⟨⟨m _ _ f,by rw[hl];exact A⟩,fun v H3 B=>.inl ?_⟩
   obtain⟨rfl,C,xx,D,rfl⟩:=B;refine⟨rfl,?_⟩;have a:(kvs.map (·.1))[j]?=some C:=by rw[eo,D];rfl
   simp only[rX g,eo] at a;rw[eo] at c;cases n:l[j]? with
   | none=>rw[n] at a;exact nO a
   | some y =>
    rw[n] at a c;obtain rfl:=sO a;obtain rfl:=sO c;rfl
  ·have q:=bu.length g;rw[a7] at hl;rw[q];exact hl
 ·exact nO b
end
section
open Sem (wp)
structure nQ (h:nS) (d:dR) (es:Array VC) (ep:Nat):Prop where
 ok:∃o,h.get? d=some o/\o.ExactDict/\o.data=.dict es ep
section
variable{prog:iN}{w:nE}{A:n6}{E:bR->dr->Prop}{s:dr}
theorem nQ.ty{d:dR}{c:Array VC}{ep:Nat}(h:nQ s.heap d c ep):s.TypeIs (.ref d) "dict":=let ⟨o,a,b,_⟩:=h.ok;⟨o,a,b.1⟩
theorem Io{d:dR}{a:Array VC}{ep:Nat}{Q:bR->dr->Prop}(hd:(d==Sa)=false)(r:nQ s.heap d a ep)
 (q:Q (.ref s.heap.objs.size) {s with heap:=s.heap.push {cls:=.type "dict_keyiterator",data:=.fields #[.ref d,.int 0 0,.int a.size 0,.int ep 0]} }):gW (ib prog w) A (ZY (.ref d)) Q E s:=by
 have ty:=r.ty;obtain⟨o,b,e2,c⟩:=r.ok;refine wpAny_pyIter_slot ty aab (wy aab ty F.entry_dict_iter ?z (F.args_dict_iter_1 _));delta Vs.«dict.__iter__» aa4
 refine cn (cn (Zt ty ?B));refine (eK ?C)
 refine (show gW _ _ (Xm d >>= _) _ _ s from ?D)
 delta Xm;rw[if_neg (fun z=>by rw[hd] at z;contradiction)]
 refine cn (eK (cn (Wi b c (cn (Yc b c (cn (z3 (eK ⟨_,rfl,"dict_keyiterator",_,⟨_,hG _ rfl,rfl⟩,zR.lookup,?G⟩))))))));simpa[Zd] using q
theorem HK{it d:dR}{i ep:Nat}{a:Array VC}{Q:Option bR->dr->Prop}(hit:s.heap.IsKeyIter it d i a.size ep)(r:nQ s.heap d a ep)(f:i<a.size)
 (q:∀h',h'.IsKeyIter it d (i+1) a.size ep->VI it s.heap h'->Q (some a[i].key) {s with heap:=h'}):gW (ib prog w) A (WI (.ref it)) Q E s:=by
 have ty:=hit.typeIs;obtain⟨x,e,j,b⟩:=id hit;obtain⟨o,g,e2,h⟩:=r.ok;have own:Wk "dict_keyiterator"=false:=rfl
 refine cn (abn (Vi ty zR (wy zR ty XS ?z (XM _))));refine cn (eK (cn (cn ?D)))
 first|refine cn (UI ty (eK ?B))|refine cn (Va ty (eK ?B))
 refine cn (abb e b ?G);refine (?H)
 refine cn (eK (cn (Wi g h ?I)));rw[if_neg (by simp)]
 refine cn (eK (cn (Yc g h ?J)));rw[if_neg (by simp)]
 refine eK ?K;simp[ma f]
 refine cn ?L
 first|refine cn (UI ty (eK ?C))|refine cn (Va ty (eK ?C))
 refine cn (Zu ty ?M);refine (show gW _ _ (setField (.ref it) 1 (Zd ((i:Int)+1)) >>= _) _ _ s from cn (aba e b (by simp) ?N))
 have c:(s.heap.update it (aai (·.setIfInBounds 1 (Zd ((i:Int)+1))))).IsKeyIter it d (i+1) a.size ep:=⟨_,Yr _ e (Obj.isFreed_of_fields (Zk b _)),(Obj.cls_mapFields ..).trans j,by rw[Zk b];simp[Zd]⟩
 refine cn (sH (cn (Zu c.typeIs ?O)))
 exact (eK (eK ⟨_,rfl,eK (q _ c (XH ..))⟩))
theorem Fc{it d:dR}{i ep:Nat}{c:Array VC}{Q:Option bR->dr->Prop}(hh:A.handled=none)(hit:s.heap.IsKeyIter it d i c.size ep)(r:nQ s.heap d c ep)(e:c.size<=i)
 (q:∀h',Heap.ExtBut it s.heap h'->Q none {s with heap:=h'}):gW (ib prog w) A (WI (.ref it)) Q E s:=by
 have ty:=hit.typeIs;obtain⟨x,f,x2,g⟩:=id hit;obtain⟨o,h,e2,j⟩:=r.ok;have own:Wk "dict_keyiterator"=false:=rfl
 refine cn (abn (Vi ty zR (wy zR ty XS ?z (XM _))));refine cn (eK (cn (cn ?D)))
 first|refine cn (UI ty (eK ?B))|refine cn (Va ty (eK ?B))
 refine cn (abb f g ?G);refine (?H)
 refine cn (eK (cn (Wi h j ?I)));rw[if_neg (by simp)]
 refine cn (eK (cn (Yc h j ?J)));rw[if_neg (by simp)]
 refine eK ?K;simp[Wh e]
 refine cn ?L
 first|refine cn (UI ty (eK ?C))|refine cn (Va ty (eK ?C))
 refine (show gW _ _ (setField (.ref it) 0 .none >>= _) _ _ s from cn (aba f g (by simp) ?M))
 refine (cn ?N)
 refine cn (z3 (cn (wpAny_of_eq (a:=qo) (by first|rfl|(simp only[abc];rfl)) (z3 ?O (by size_fits)))) (by size_fits))
 refine cn (wpAny_handled ?P);rw[show A.in1.handled=none from hh]
 refine cn (eK (wpAny_throw ?R));exact cn (wpAny_isInstance ⟨_,hG _ rfl,rfl⟩ isSubtype_stop (eK (q _ (((XH ..).extBut.push _).push _))))
theorem ET{d:dR}{a:Array VC}{ep:Nat}{Q:bR->dr->Prop}(hd:(d==Sa)=false)(r:nQ s.heap d a ep)(hz:(a.size:Int)<2 ^ 63)(q:∀t t',Q (.int a.size t) {s with toks:=t'}):gW (ib prog w) A (call (.builtin "len") [.ref d]) Q E s:=by
 have ty:=r.ty;obtain⟨o,b,e2,c⟩:=r.ok;refine VR kind_len plain_len entry_len (args_len1 _) ?z;delta Vs.«len»
 refine cn (eK (cn (Vi ty aam (wy aam ty F.entry_dict_len ?B (F.args_dict_len_1 _)))));refine (show gW _ _ (dictSize d >>= _) _ _ s from ?C)
 refine cn (cn (Wi b c (eK ?D)));refine (cn (wpAny_pendingCount_other hd (wpAny_ret_mkInt ?G)))
 refine cn (sH (eK (cn (wpAny_letGo ?H))));refine (?I)
 refine (show gW _ _ (if ((a.size:Nat):Int) ≥ 2 ^ 63 then _ else _) _ _ _ from ?J)
 rw[if_neg (by lia)]
 exact cn (wpAny_mkInt (eK ⟨_,rfl,q _ _⟩))
end
end
noncomputable def uN(d:dR)(o:wm)(kvs:List (List Key×V))(bs:List dR):It:=⟨fun i H=>H d=some (.a9 o (.dT kvs))/\i<kvs.length,fun i H v a=>a=H/\∃b,bs[i]?=some b/\v=.ref b,fun i H=>H d=some (.a9 o (.dT kvs))/\kvs.length<=i⟩
def lM(H:Hp)(kvs:List (List Key×V))(bs:List dR):Prop:=Vp (fun a b=>H b=some (.tup (a.1.map kV))) kvs bs
def KeysIn(a:Array VC)(bs:List dR):Prop:=∀(i:Nat) (hi:i<a.size),∃b,bs[i]?=some b/\a[i].key=.ref b
section
variable{P:iN}{w:nE}{H:Hp}{h:nS}{d:dR}{X:Cx}{K:fj}{pos:u3}{H0:Hp×Hp}{Hi:Hp}{ps:Nat->Option dR}{Z:DS}{σ:St}
theorem tT{kvs:List (List Key×V)}(x:cm P w H h d (.dT kvs)):∃a ep o bs,h.get? d=some o/\o.ExactDict/\o.data=.dict a ep/\a.size=kvs.length/\lM H kvs bs/\KeysIn a bs:=by
 obtain⟨_,_,xs,b,o,a,ep,g,j,k,c,h5⟩:=x;have l:a.size=xs.length:=by
  have:=congrArg List.length c;simpa using this
 have m:∀{kvs:List (List Key×V)}{xs:List (List Key×dR×bR)},Vp (fun (p:List Key×V) (q:List Key×dR×bR)=>p.1=q.1/\H q.2.1=some (.tup (p.1.map kV))/\RelV p.2 q.2.2) kvs xs->lM H kvs (xs.map fun x=>x.2.1):=fun b=>by
  induction b with
  | nil=>exact .nil
  | cons h _ n=>exact .cons h.2.1 n
 refine⟨a,ep,o,xs.map fun x=>x.2.1,g,j,k,by simp only[l,pE b],m b,fun i r=>?_⟩
 have e:xs[i]?=some xs[i]:=cA (by omega)
 have f:a.toList[i]?=some a[i]:=by simp[r]
 simp only[c,eo,e] at f;refine⟨xs[i].2.1,by rw[eo,e];rfl,?_⟩
 rw[<-Option.some.inj f];rfl
theorem Le{P:iN}{w:nE}{K:fj}{Q:gi}{d it:dR}{o:wm}{kvs:List (List Key×V)}{n ep:Nat}{j:Array VC}{bs:List dR}(G:j.size=n)(hne:d≠it)(l:o.data=.dict j ep)(a:KeysIn j bs) :
  Turn P w K Q (uN d o kvs bs) [it] it (fun i h=>h.IsKeyIter it d i n ep) where
 mem:=by simp
 obj:=fun i h st b a=>by
  have e:b=it:=by simpa using a
  subst e;obtain⟨o,e,c,d⟩:=st;exact⟨o,e,fun v z=>by rw[d] at z;contradiction⟩
 keep:=fun i h h' st k=>by
  obtain⟨o,e,c,d⟩:=st;exact⟨o,k it (by simp) o e,c,d⟩
 item:=by
  intro X r hw t J i f s σ H E I m st u;subst r hw t G;obtain⟨x,y,R,A,B,C⟩:=m it (by simp)
  obtain⟨hd,S⟩:=u;obtain⟨ho,ok⟩:=I.ai d _ hd;obtain⟨L,M,N,O,g,D,g3,T,_,_⟩:=tT ok;rw[ho] at g;cases g;rw[l] at g3;cases g3;have p:i<j.size:=by omega
  refine HK st ⟨o,ho,D,l⟩ p fun h' q U=>?_
  have Y:Inv X f σ H {s with heap:=h',toks:=s.toks}:=I.turned (fun b o a e=>(U.2 b a).trans e) x y A B C
  obtain⟨b,tb,F⟩:=a i p;obtain⟨N,e,c,dd⟩:=id q;exact⟨_,rfl,nJ e c dd rfl ⟨.ref b,H,Y,by rw[F];rfl,⟨rfl,b,tb,rfl⟩,q,fun b a=>(m b a).1⟩⟩
 done:=by
  intro X r hw t J i f s σ H E I m st u;subst r hw t G;obtain⟨x,y,R,A,B,C⟩:=m it (by simp)
  obtain⟨hd,S⟩:=u;obtain⟨ho,ok⟩:=I.ai d _ hd;obtain⟨L,M,N,O,g,D,g3,T,_,_⟩:=tT ok;rw[ho] at g;cases g;rw[l] at g3;cases g3;exact Fc (I.ok.hd J) st ⟨o,ho,D,l⟩ (by lia) fun h' F=>⟨rfl,I.turned (fun b o a e=>F b o a e) x y A B C⟩
 self:=fun _ _ _ _ _ st h=>ZD st h
theorem Inv.Jf{a:List (dR×wm)}{σ:St}{H:Hp}{s:dr}{d:dR}{o:wm}{kvs:List (List Key×V)}(I:Inv X a σ H s)(e:H d=some (.dT kvs))(ho:s.heap.get? d=some o):Inv X a σ (upd H d (.a9 o (.dT kvs))) s:=by
  have f:∀b u,H b=some u->u≠.dT kvs->b≠d:=fun b u q z y=>by rw[y,e] at q;obtain rfl:=sO q;exact z rfl
  have un:Un X.fs [] H (upd H d (.a9 o (.dT kvs))) s.heap s.heap :=
    ⟨fun b ob q _ _ _=>q,fun b ob q _ _ _=>⟨ob.slots,q⟩,fun b ob q n _=>by rw[aw (fun z=>by rw[z,e] at n;contradiction)];exact n,fun b ob q _=>⟨ob,q⟩,
     fun b xs q=>by rw[aw (f b _ q (by intro z;contradiction))];exact q,fun b ob u q=>by rw[aw (f b _ q (by intro z;contradiction))];exact q,fun b ps q=>⟨#[],by rw[aw (f b _ q (by intro z;contradiction)),q];simp⟩⟩
  have st:∀b u,cm X.prog X.w H s.heap b u->cm X.prog X.w (upd H d (.a9 o (.dT kvs))) s.heap b u:=fun b u x =>
    x.fW (fun c v _ q=>q) (fun c q=>by rw[aw (f c _ q (by intro z;contradiction))];exact q) fun c xs q=>by rw[aw (f c _ q (by intro z;contradiction))];exact q
  have ai:bP X.prog X.w (upd H d (.a9 o (.dT kvs))) s.heap:=fun b u q=>by
    by_cases g:b=d
    · subst g
      rw[aU] at q;obtain rfl:=sO q;exact⟨ho,st _ _ (I.ai _ _ e)⟩
    · rw[aw g] at q
      exact st _ _ (I.ai b u q)
  exact I.un un ai
def Rn(te:TE):TI:=fun σ H R=>te σ H fun v a=>∃d kvs,v=.ref d/\a d=some (.dT kvs)/\∀o bs,lM a kvs bs->R (uN d o kvs bs) (upd a d (.a9 o (.dT kvs)))
theorem BQ{j e:gi}{te:TE}(k:PE X e te):PI X j e (Rn te):=by
 intro c s σ H R I h;refine aC (k c s σ H _ I h) fun v a ⟨y,H1,g,l,m⟩=>?_
 obtain⟨d,kvs,rfl,hd,q⟩:=m;subst l;have ok:=g.ai d _ hd;have lo:=ok.2.1;obtain⟨es,ep,o,bs,ho,n,g3,g4,p,r⟩:=tT ok;have i:=eS ho;have f:=g.Jf hd ho;refine Io lo ⟨o,ho,n,g3⟩ ⟨a.heap.objs.size,[a.heap.objs.size],_,_,_,rfl,f.kept fun b o e=>eu _ e,Le rfl (gs i) g3 r,⟨_,hG _ rfl,rfl,rfl⟩,fun b t=>?_,q o bs p⟩
 simp[show b=a.heap.objs.size by simpa using t]
 exact f.la (eB _) (f.ai.fresh (eB _))
theorem Ft:bK X (.builtin "len") (fun xs H Q=>∃a kvs,xs=[V.ref a]/\Rd H a (.dT kvs)/\Q (.int kvs.length) H):=by
 intro pins s σ H xs us Q I r h;obtain⟨a,kvs,rfl,c,q⟩:=h;obtain⟨u,rfl,e⟩:=vals1 r;subst e;have ok:=uY I.ai c;have lo:=ok.2.1;have z:=ok.1;obtain⟨es,ep,o,bs,ho,f,g3,b,g5,g6⟩:=tT ok;refine ET lo ⟨o,ho,f,g3⟩ (by rw[b];simp only[zd] at z;lia) fun t t'=>?_
 rw[b];exact⟨.int kvs.length,H,I.tok _,⟨t,rfl⟩,q⟩
abbrev gu:=List (List eA×Dat)
noncomputable def fu(a:gu)(k:List eA):Option Dat:=(a.find? fun p=>decide (p.1=k)).map (·.2)
def oF(a:gu)(k:List eA)(d:Dat):gu:=if (fu a k).isSome=true then a.map (fun p=>if p.1=k then (p.1,d) else p) else a++[(k,d)]
noncomputable def kT(k:List eA):List Key:=k.map rp
theorem D5{a b:List eA}:kT a=kT b ↔ a=b:=by
 delta kT;constructor
 ·intro h;induction a generalizing b with
  | nil=>cases b with
   | nil=>rfl
   | cons _ _=>contradiction
  | cons x a c=>cases b with
   | nil=>contradiction
   | cons y b =>
    obtain⟨e,f⟩:=List.cons.inj h;rw[Sum.inr.inj e,c f]
 ·intro h;rw[h]
theorem xM(k:List eA):(kT k).map kV=k.map V.str:=by
 delta kT;rw[fk];rfl
theorem bO.length:∀{a:gu}{kvs:List (List Key×V)},bO K H a kvs->kvs.length=a.length
 | [],_,h=>by rw[show _=[] from h];rfl
 | (_,_)::_,_,⟨v,r,e,q,t⟩=>by simp only[e,f',f',bO.length t]
theorem bO.find:∀{c:gu}{kvs:List (List Key×V)}(k:List eA),bO K H c kvs->(∀d,fu c k=some d->∃v,eV kvs (kT k)=some v/\Rep K H d v)/\(fu c k=none->eV kvs (kT k)=none)
 | [],_,k,h=>by
  rw[show _=[] from h]
  exact⟨fun d z=>by simp[fu] at z,fun _=>rfl⟩
 | (f,d')::c,_,k,⟨v,r,e,q,t⟩=>by
  rw[show _=(kT f,v)::r from e]
  obtain⟨a,b⟩:=bO.find k t
  by_cases g:f=k
  ·subst g;have i:fu ((f,d')::c) f=some d':=by simp[fu]
   rw[i,oZ rfl];exact⟨fun d z=>⟨v,rfl,by obtain rfl:=sO z;exact q⟩,fun z=>by contradiction⟩
  ·have i:fu ((f,d')::c) k=fu c k:=by simp[fu,g]
   rw[i,oQ (fun z=>g (D5.mp z))]
   exact⟨a,b⟩
theorem bO.has{c:gu}{kvs:List (List Key×V)}(k:List eA)(h:bO K H c kvs):(eV kvs (kT k)).isSome=(fu c k).isSome:=by
 obtain⟨a,b⟩:=h.find k;cases e:fu c k with
 | none=>rw[b e];rfl
 | some d=>obtain⟨v,f,_⟩:=a d e;rw[f];rfl
theorem bO.iX:∀{a:gu}{kvs:List (List Key×V)}(k:List eA) {d:Dat}{v:V},bO K H a kvs->Rep K H d v->bO K H (a.map fun p=>if p.1=k then (p.1,d) else p) (kvs.map fun p=>if p.1=kT k then (p.1,v) else p)
 | [],_,k,_,_,h,_=>by simp only[show _=[] from h];exact rfl
 | (b,d')::a,_,k,d,v,⟨w,r,e,q,t⟩,c=>by
  rw[show _=(kT b,w)::r from e,hY,hY]
  by_cases f:b=k
  ·subst f;rw[if_pos rfl,if_pos rfl];exact⟨v,_,rfl,c,bO.iX b t c⟩
  ·rw[if_neg f,if_neg (fun z=>f (D5.mp z))]
   exact⟨w,_,rfl,q,bO.iX k t c⟩
theorem bO.snoc:∀{b:gu}{kvs:List (List Key×V)}(k:List eA) {d:Dat}{v:V},bO K H b kvs->Rep K H d v->bO K H (b++[(k,d)]) (kvs++[(kT k,v)])
 | [],_,k,_,v,h,a=>by rw[show _=[] from h];exact⟨v,[],rfl,a,rfl⟩
 | (_,_)::_,_,k,_,_,⟨w,r,e,q,t⟩,a=>⟨w,r++_,by rw[e];rfl,q,bO.snoc k t a⟩
theorem bO.put{a:gu}{kvs:List (List Key×V)}(k:List eA){d:Dat}{v:V}(h:bO K H a kvs)(b:Rep K H d v):bO K H (oF a k d) (putK kvs (kT k) v):=by
 delta oF putK;rw[sY,h.has k];split
 ·exact h.iX k b
 ·exact h.snoc k b
theorem zS:∀{a:gu}{kvs:List (List Key×V)},bO K H a kvs->kvs.map (·.1)=a.map fun k=>kT k.1
 | [],_,h=>by rw[show _=[] from h];rfl
 | (_,_)::_,_,⟨v,r,e,q,t⟩=>by simp only[e,hY,hY,zS t];rfl
abbrev UF:=DS->Option (List eA×DS)
def lT(X:Cx)(e:gi)(f:UF):Prop:=∃t,PE X e t/\∀(H0:Hp×Hp) (ps:Nat->Option dR) (Z:DS) (σ:St) (H Hi:Hp) (l:List eA) (b:DS) (Q:VK),f Z=some (l,b)->SR X.K H0 ps Z σ H Hi ->
 (∀p c a,SR X.K H0 ps b σ c a->ag Hi a->a p=some (.tup ((kT l).map kV))->Q (.ref p) c)->t σ H Q
def qO(f:AF):UF:=fun Z=>(f Z).bind fun p=>if p.1.length<=dk then (dv p.1).map fun l=>(l,p.2) else none
def xQ(f:AF):UF:=fun Z=>(f Z).bind fun p=>match p.1 with
 | [.lst ds]=>(dv ds).map fun l=>(l,p.2)
 | _=>none
theorem L9{a:List gi}{c}{f:AF}(h:DA X a f):lT X (.Tuple a c pos) (qO f):=by
 obtain⟨t,p,q⟩:=h;refine⟨_,uI p,fun H0 ps Z σ H Hi l Z' Q e S k=>?_⟩
 obtain⟨ds,Z1,g,e⟩:=oB e;split at e
 ·rename_i i;obtain⟨l',j,e⟩:=oM e;obtain⟨rfl,rfl⟩:=sP e;refine q H0 ps Z σ H Hi ds _ _ g S fun vs H1 Hi1 m n b=>⟨by rw[b.length];exact i,fun p r=>?_⟩
  obtain⟨s,u⟩:=m.laid r;refine k p _ _ s (n.trans u) ?_;rw[aU,lg j b,xM]
 ·exact nO e
theorem KL{e:gi}{fa:AF}{p:u3}(g:Gl X "tuple")(hm:X.mg "tuple"=none)(i:bp X e [])(j:DA X [e] fa):lT X (.Call (.Name "tuple" p) [e] [] pos) (xQ fa):=by
 obtain⟨t,m,q⟩:=j;refine⟨_,yf AG g hm (by decide +kernel) m (by decide) rfl i rfl,fun H0 ps Z σ H Hi l Z' Q b S k=>?_⟩
 obtain⟨ds,Z1,n,b⟩:=oB b;dsimp only at b;split at b
 ·obtain⟨l',r,b⟩:=oM b;obtain⟨rfl,rfl⟩:=sP b;refine q H0 ps Z σ H Hi _ _ _ n S fun vs H1 Hi1 c s u=>?_
  obtain⟨v,vr,rfl,⟨a,f,rfl,x,rs⟩,y⟩:=u;subst y;refine⟨a,f,rfl,.inl ⟨.inl (Rd.mono c.sub x),fun p z=>?_⟩⟩
  obtain⟨A,B⟩:=c.laid z;refine k p _ _ A (s.trans B) ?_;rw[aU,lg r rs,xM]
 ·exact nO b
noncomputable def yp:EF:=fun Z=>some (.own (.aQ false []),Z)
theorem Ma{pos:u3}:DE X (.Dict [] [] pos) yp:=by
 refine⟨_,Mf,fun H0 ps Z σ H Hi r Z' Q a S k=>?_⟩
 obtain⟨rfl,rfl⟩:=sP a;intro l hl;exact k (.ref l) _ Hi (S.made hl) (ag.refl _) ⟨l,rfl,⟨rfl,_,aU,rfl,S.dj hl⟩,(S.bI hl).2,(S.bI hl).1,S.dP hl⟩
def qf(i:Nat)(b:UF)(f:DF):SF:=fun Z=>(f Z).bind fun p=>((p.2[i]?).bind ownOf).bind fun _=>(b p.2).bind fun q=>((q.2[i]?).bind ownOf).bind fun s=>match s.2 with
 | .aQ _ a=>if a.length<dk then some (.next (q.2.set i (kindAt s.1 (.aQ false (oF a q.1 p.1))))) else none
 | _=>none
theorem Pl{x:eA}{m pt:u3}{g e:gi}{r:UF}{f:DF}(i:Nat)(J:X.A.units+1<uz)(L:X.N[i]?=some x)(M:cc X.env.scope x)(h:DD X e f)(O:lT X g r)(hd:bb x:=by decide)(s:cH x:=by decide)
 (hs:xn e (some (.Subscript (.Name x m) g pt)) pos.line X.env=pure false:=by rfl):bU X (.Assign [.Subscript (.Name x m) g pt] e pos) (qf i r f):=by
 obtain⟨t,p,q⟩:=h;obtain⟨tk,Q,R⟩:=O;refine⟨_,An J (fg L M hd s) Q p hs,fun H0 ps Z σ H Hi o D e S k=>?_⟩
 obtain⟨d,Z1,T,e⟩:=oB e;obtain⟨b0,c0,U,e⟩:=oB e;obtain⟨n,Z2,V,e⟩:=oB e;obtain⟨io,c,u,e⟩:=oB e;dsimp only at e;split at e
 ·split at e
  ·rename_i W;obtain rfl:=sO e;refine q H0 ps Z σ H Hi d Z1 _ T S fun v Y B C s1 r1=>?_
   obtain⟨a,j,_⟩:=C.at (jX U);refine⟨.ref a,j,R H0 ps Z1 σ Y B _ Z2 _ V C fun y H2 E l F r2=>?_⟩
   obtain⟨b,G,ob⟩:=l.at (jX u);rw[j] at G;cases G;obtain⟨z,kvs,h1,I,h3⟩:=ob;refine⟨a,_,rfl,k8.t h1 (l.sub _ _ r2) (by rw[bO.length I];exact W),?_⟩
   exact k σ _ E (l.write (jX u) j ⟨rfl,_,aU,bO.put n I (Rep.mono F r1),h3⟩) (s1.trans F)
  ·exact nO e
 ·exact nO e
theorem SR.share(S:SR K H0 ps Z σ H Hi){b:dR}{vs:List V}(e:H b=some (.tup vs)):∃f,SR K H0 ps Z σ H f/\ag Hi f/\f b=some (.tup vs)/\∀q u,f q=some u->Hi q=some u\/∃vs,u=.tup vs:=by
 cases z:Hi b with
 | some u =>
  have:=S.sub _ _ z;rw[e] at this;obtain rfl:=sO this;exact⟨Hi,S,ag.refl _,z,fun _ _ h=>.inl h⟩
 | none =>
  have sm:ag Hi (upd Hi b (.tup vs)):=i7 z;have ne:∀{q:dR}{c:Dat},cx K H Hi q c->q≠b:=fun h y=>by subst y;exact h.nt e
  refine⟨_,⟨Bz S.sub e,S.keep,S.fw,fun i d h=>?_,fun i c h=>?_,fun i c h=>?_,S.ne,S.len,fun q u h=>?_⟩,sm,aU,fun q u h=>?_⟩
  ·obtain⟨v,a,r⟩:=S.dat i d h;exact⟨v,a,Rep.mono sm r⟩
  ·obtain⟨q,a,o,j,k⟩:=S.own i c h;exact⟨q,a,o.keeps rfl sm (by rw[aw (ne o)];exact o.some.2),j,k⟩
  ·obtain⟨q,a,o,j⟩:=S.io i c h;exact⟨q,a,o.keeps rfl sm (by rw[aw (ne o)];exact o.some.2),j⟩
  ·by_cases g:q=b
   ·subst g;rw[aU] at h;cases h;exact .inr (.inr ⟨vs,rfl⟩)
   ·rw[aw g] at h;exact S.nw q u h
  ·by_cases g:q=b
   ·subst g;rw[aU] at h;obtain rfl:=sO h;exact .inr ⟨vs,rfl⟩
   ·rw[aw g] at h;exact .inl h
theorem SR.Cd{kvs:List (List Key×V)}{bs:List dR}(k:lM H kvs bs):∀{Hi:Hp},SR K H0 ps Z σ H Hi->∃a,SR K H0 ps Z σ H a/\ag Hi a/\lM a kvs bs/\∀q u,a q=some u->Hi q=some u\/∃vs,u=.tup vs:=by
 induction k with
 | nil=>exact fun S=>⟨_,S,ag.refl _,.nil,fun _ _ h=>.inl h⟩
 | cons h _ c =>
  intro Hi S;obtain⟨H1,f,g,i,j⟩:=S.share h;obtain⟨l,m,b,k2,n⟩:=c f;exact⟨l,m,g.trans b,.cons (b _ _ i) k2,fun q u e=>(n q u e).elim (j q u) .inr⟩
theorem SR.hold{i:Nat}{c d':Dat}{p:dR}{o:HO}(S:SR K H0 ps Z σ H Hi)(e:Z[i]?=some (.own c))(l:σ[i]?=some (some (.ref p)))(r:Rep K (upd Hi p o) d' (.ref p)):SR K H0 ps (Z.set i (.dat d')) σ (upd H p o) (upd Hi p o)/\ag Hi (upd Hi p o):=by
 obtain⟨p',m,E,nl,A⟩:=S.own i _ e;rw[l] at m;cases m;have n:=(bt.mp e).1;have sm:ag Hi (upd Hi p o):=i7 E.some.2;have back:∀{j:Nat}{s:Slot},(Z.set i (.dat d'))[j]?=some s->(∀d,s≠.dat d)->j≠i/\Z[j]?=some s:=fun {j s} h F=>by
  by_cases f:j=i
  ·subst f;rw[lp n] at h;obtain rfl:=sO h;exact absurd rfl (F _)
  ·rw[kx (Ne.symm f)] at h;exact⟨f,h⟩
 refine⟨⟨uU S.sub,fun b u t G=>?_,fun q B=>?_,fun j d h=>?_,fun j c h=>?_,fun j c h=>?_,fun j k c I q J L=>?_,by rw[zb];exact S.len,fun q u eq=>?_⟩,sm⟩
 ·rw[aw (fun z=>by rw[z,A] at t;exact nO t)]
  exact S.keep b u t G
 ·have C:q≠p:=fun z=>nl (z ▸ B)
  rw[aw C];exact S.fw q B
 ·by_cases f:j=i
  ·subst f;rw[lp n] at h;cases h;exact⟨_,l,r⟩
  ·rw[kx (Ne.symm f)] at h;obtain⟨v,a,b⟩:=S.dat j d h;exact⟨v,a,b.mono sm⟩
 ·obtain⟨f,h⟩:=back h (by intro d z;contradiction)
  obtain⟨q,a,b,x,M⟩:=S.own j c h;have g:q≠p:=fun z=>f (S.ne j i _ _ p (.inl h) (.inl e) (z ▸ a) l)
  exact⟨q,a,b.keeps (aw g) sm (by rw[aw g];exact b.some.2),x,M⟩
 ·obtain⟨f,h⟩:=back h (by intro d z;contradiction)
  obtain⟨q,a,b,x⟩:=S.io j c h;have g:q≠p:=fun z=>f (S.ne j i _ _ p (.inr h) (.inl e) (z ▸ a) l)
  exact⟨q,a,b.keeps (aw g) sm (by rw[aw g];exact b.some.2),x⟩
 ·have N:=J.imp (fun z=>(back z (by intro d y;cases y)).2) fun z=>(back z (by intro d y;cases y)).2
  have O:=L.imp (fun z=>(back z (by intro d y;cases y)).2) fun z=>(back z (by intro d y;cases y)).2
  exact S.ne j k c I q N O
 ·by_cases D:q=p
  ·subst D;exact .inr (.inl A)
  ·rw[aw D] at eq;exact S.nw q u eq
theorem SR.held{c:Dat}{p:dR}{o:HO}(S:SR K H0 ps Z σ H Hi)(s:cx K H Hi p c)(nl:¬gm ps p)(k:H0.1 p=none)(nd:∀(i:Nat) (l:Dat),(Z[i]?=some (.own l)\/Z[i]?=some (.io l))->σ[i]?≠some (some (.ref p))):SR K H0 ps Z σ (upd H p o) (upd Hi p o)/\ag Hi (upd Hi p o):=by
 have sm:ag Hi (upd Hi p o):=i7 s.some.2;refine⟨⟨uU S.sub,fun b u f t=>?_,fun q m=>?_,fun j d h=>?_,fun j c h=>?_,fun j c h=>?_,S.ne,S.len,fun q u eq=>?_⟩,sm⟩
 ·rw[aw (fun z=>by rw[z,k] at f;exact nO f)]
  exact S.keep b u f t
 ·have n:q≠p:=fun z=>nl (z ▸ m)
  rw[aw n];exact S.fw q m
 ·obtain⟨v,a,b⟩:=S.dat j d h;exact⟨v,a,b.mono sm⟩
 ·obtain⟨q,a,b,g,x⟩:=S.own j c h;have e:q≠p:=fun z=>nd j c (.inl h) (z ▸ a)
  exact⟨q,a,b.keeps (aw e) sm (by rw[aw e];exact b.some.2),g,x⟩
 ·obtain⟨q,a,b,g⟩:=S.io j c h;have e:q≠p:=fun z=>nd j c (.inr h) (z ▸ a)
  exact⟨q,a,b.keeps (aw e) sm (by rw[aw e];exact b.some.2),g⟩
 ·by_cases r:q=p
  ·subst r;exact .inr (.inl k)
  ·rw[aw r] at eq;exact S.nw q u eq
noncomputable def jx(a:gu):List Dat:=a.map fun k=>.tup (k.1.map .str)
theorem DR{K:fj}{H:Hp}:∀l:List eA,ax K H (l.map .str) (l.map V.str)
 | []=>rfl
 | x::l=>⟨_,_,rfl,rfl,DR l⟩
theorem Dc{K:fj}{Hi:Hp}{p:dR}{o:wm}{kvs:List (List Key×V)}{bs:List dR}{a:gu}(f:Hi p=some (.a9 o (.dT kvs)))(g:bO K Hi a kvs)(kb:lM Hi kvs bs):JW K (uN p o kvs bs) (jx a) Hi:=by
 intro j H2 i;have hl:=bO.length g;have lk:(jx a).length=a.length:=by unfold jx;rw[a7]
 refine⟨fun d c=>⟨⟨i _ _ f,?_⟩,fun v H3 n=>.inl ?_⟩,fun h=>⟨i _ _ f,?_⟩⟩
 ·have:=(bt.mp c).1;omega
 ·obtain⟨rfl,b,q,rfl⟩:=n;refine⟨rfl,?_⟩;have k:j<a.length:=by
   have:=(bt.mp c).1;omega
  have l:kvs[j]?=some kvs[j]:=cA (by omega)
  have m:=vh kb j _ _ l q;have e:(kvs.map (·.1))[j]?=some kvs[j].1:=by rw[eo,l];rfl
  simp only[zS g,eo,cA k] at e;have e:=Option.some.inj e;unfold jx at c;simp only[eo,cA k] at c;obtain rfl:=sO c;rw[<-e,xM] at m;exact⟨b,_,rfl,aV.of m,DR _⟩
 ·omega
def vd(i:Nat):IF:=fun Z=>match Z[i]? with
 | some (.own (.aQ _ a))=>some (jx a,Z.set i (.dat (.aQ true a)))
 | _=>none
theorem GI{n:gi}{x:eA}{q:u3}{i:Nat}(r:X.N.findIdx? (·==x)=some i)(s:cc X.env.scope x)(hd:bb x)(g:cH x):cX X n (.Name x q) (vd i):=by
 refine⟨_,BQ (fg (eN r) s hd g),fun H0 ps Z σ H Hi items Z' R a S k=>?_⟩
 unfold vd at a;split at a
 ·rename_i fz t e;obtain⟨rfl,rfl⟩:=sP a;obtain⟨p,c,⟨_,kvs,u,j,np⟩,nl,n0⟩:=S.own i _ e;refine⟨_,c,p,kvs,rfl,u,fun o bs kb=>?_⟩
  obtain⟨H1,l,f,k1,_⟩:=S.Cd kb;obtain⟨p',b,⟨_,kvs',hp',rk',m⟩,_⟩:=l.own i _ e;rw[c] at b;cases b;have sm:=i7 (o:=.a9 o (.dT kvs)) m;obtain⟨v,y⟩:=l.hold (d':=.aQ true t) e c ⟨p,o,kvs,rfl,aU,(j.mono f).mono sm⟩;exact k _ _ _ v (f.trans y) (Dc aU ((j.mono f).mono sm) (Paired.nH k1 fun _ _ z=>sm _ _ z))
 ·exact nO a
def sQ(f:EF):IF:=fun Z=>(f Z).bind fun p=>match p.1 with
 | .own (.aQ _ a)=>some (jx a,p.2)
 | _=>none
theorem LL{n e:gi}{f:EF}(h:DE X e f):cX X n e (sQ f):=by
 obtain⟨t,s,q⟩:=h;refine⟨_,BQ s,fun H0 ps Z σ H Hi items Z' R a S k=>?_⟩
 obtain⟨r,Z1,x,a⟩:=oB a;dsimp only at a;split at a
 ·rename_i A B;obtain⟨rfl,rfl⟩:=sP a;refine q H0 ps Z σ H Hi _ _ _ x S fun v C Hi1 D E F=>?_
  obtain⟨p,rfl,i,nl,G,nd⟩:=F;obtain⟨_,kvs,j,I,J⟩:=id i;refine⟨p,kvs,rfl,j,fun o bs kb=>?_⟩
  obtain⟨c,l,g,k2,L⟩:=D.Cd kb;have b:c p=none:=by
   cases z:c p with
   | none=>rfl
   | some u =>
    rcases L p u z with y|⟨ts,y⟩
    ·rw[J] at y;exact nO y
    ·subst y;have t:=l.sub _ _ z;rw[j] at t;cases t
  have m:=i.keeps rfl g b;have sm:=i7 (o:=.a9 o (.dT kvs)) b;obtain⟨M,s3⟩:=l.held m nl G nd;exact k _ _ _ M ((E.trans g).trans s3) (Dc aU ((I.mono g).mono sm) (Paired.nH k2 fun _ _ z=>sm _ _ z))
 ·exact nO a
def lG(neg:Bool)(i:Nat)(b:UF):EF:=fun Z=>(b Z).bind fun q=>((q.2[i]?).bind iu).bind fun c=>match c with
 | .aQ _ a=>some (.dat (.bl (if neg then !(fu a q.1).isSome else (fu a q.1).isSome)),q.2)
 | _=>none
theorem BZ{K:fj}{H Hi:Hp}{v:V}{a:Bool}{b:gu}(t:Top K H Hi v (.aQ a b)):∃p kvs,v=.ref p/\Rd H p (.dT kvs)/\bO K Hi b kvs:=by
 obtain⟨p,o,kvs,e,c,f⟩:=t;refine⟨p,kvs,e,?_,f⟩;cases a with
 | false=>exact .inl c
 | true=>exact .inr ⟨o,c⟩
theorem xO{neg:Bool}{i:Nat}{m:UF}{tk:TE}
 (q:∀(H0:Hp×Hp) (ps:Nat->Option dR) (Z:DS) (σ:St) (H Hi:Hp) (l:List eA) (f:DS) (Q:VK),m Z=some (l,f)->SR X.K H0 ps Z σ H Hi->(∀p g a,SR X.K H0 ps f σ g a->ag Hi a->a p=some (.tup ((kT l).map kV))->Q (.ref p) g)->tk σ H Q)
 (H0:Hp×Hp)(ps:Nat->Option dR)(Z:DS)(σ:St)(H Hi:Hp)(o:Res)(f:DS)(Q:VK)(e:lG neg i m Z=some (o,f))(S:SR X.K H0 ps Z σ H Hi)
 (k:∀v g a,SR X.K H0 ps f σ g a->ag Hi a->RR X.K H0 ps f σ g a v o->Q v g):nh (ou neg) tk (tG i) σ H Q:=by
 obtain⟨l,Z1,r,e⟩:=oB e;dsimp only at e;obtain⟨c,s,e⟩:=oA e;split at e
 ·obtain⟨rfl,rfl⟩:=sP e;refine q H0 ps Z σ H Hi _ _ _ r S fun b u n j x y=>?_
  obtain⟨v,z,t⟩:=j.peek s;obtain⟨p,kvs,rfl,A,B⟩:=BZ t;refine⟨_,z,p,_,rfl,.inr ⟨kvs,kT l,b,A,rfl,j.sub _ _ y,rfl⟩,?_⟩;rw[B.has l];exact k _ u n j x rfl
 ·exact nO e
theorem Jb{a:gi}{x:eA}{b:u3}{c:UF}{i:Nat}(f:X.A.units+1<uz)(g:X.N.findIdx? (·==x)=some i)(j:cc X.env.scope x)(hd:bb x)(e:cH x)(hm:sW .In (.Name x b)=false)(k:lT X a c):DE X (.Compare a [.In] [.Name x b] pos) (lG false i c):=by
 obtain⟨t,p,q⟩:=k;exact⟨_,CC (vO f) p (fg (eN g) j hd e) hm,xO q⟩
theorem CG{f:EF}{t:TE}(q:∀(H0:Hp×Hp) (ps:Nat->Option dR) (Z:DS) (σ:St) (H Hi:Hp) (o:Res) (e:DS) (Q:VK),f Z=some (o,e)->SR X.K H0 ps Z σ H Hi->(∀v g a,SR X.K H0 ps e σ g a->ag Hi a->RR X.K H0 ps e σ g a v o->Q v g)->t σ H Q)
 (H0:Hp×Hp)(ps:Nat->Option dR)(Z:DS)(σ:St)(H Hi:Hp)(c:Bool)(e:DS)(Q:Bool->Hp->Prop)(b:fF f Z=some (c,e))(S:SR X.K H0 ps Z σ H Hi)(k:∀g a,SR X.K H0 ps e σ g a->ag Hi a->Q c g):yk t σ H Q:=by
 obtain⟨r,Z1,j,b⟩:=oB b;dsimp only at b;split at b
 ·obtain⟨rfl,rfl⟩:=sP b;refine q H0 ps Z σ H Hi _ _ _ j S fun v l i m n p=>?_
  exact⟨_,p,k l i m n⟩
 ·exact nO b
theorem EY{a:gi}{x:eA}{b:u3}{c:UF}{i:Nat}(f:X.A.units+1<uz)(g:X.N.findIdx? (·==x)=some i)(j:cc X.env.scope x)(hd:bb x)(e:cH x)(hm:sW .In (.Name x b)=false)(k:lT X a c):DT X (.Compare a [.In] [.Name x b] pos) (fF (lG false i c)):=by
 obtain⟨t,p,q⟩:=k;exact⟨_,qU (vO f) p (fg (eN g) j hd e) hm,CG (xO q)⟩
theorem E9{a:gi}{x:eA}{b:u3}{c:UF}{i:Nat}(f:X.A.units+1<uz)(g:X.N.findIdx? (·==x)=some i)(j:cc X.env.scope x)(hd:bb x)(e:cH x)(hm:sW .NotIn (.Name x b)=false)(k:lT X a c):DT X (.Compare a [.NotIn] [.Name x b] pos) (fF (lG true i c)):=by
 obtain⟨t,p,q⟩:=k;exact⟨_,qU (Dr f) p (fg (eN g) j hd e) hm,CG (xO q)⟩
def uW:List Dat->Option Res
 | [.aQ _ a]=>some (.dat (.int (a.length:Int)))
 | ds=>wX ds
theorem IZ:CD X (fun xs H Q=>wF X.K xs H Q\/(fun xs H Q=>∃a kvs,xs=[V.ref a]/\Rd H a (.dT kvs)/\Q (.int kvs.length) H) xs H Q) uW:=by
 intro H0 ps Z σ H Hi vs ds o Q e S r k;delta uW at e;split at e
 ·obtain rfl:=sO e;obtain⟨v,vr,rfl,b,c⟩:=r;subst c;obtain⟨p,kvs,rfl,f,g⟩:=BZ (b.top S.sub);refine .inr ⟨p,kvs,rfl,f,?_⟩;refine k _ H Hi S (ag.refl _) ?_;show V.int _=V.int _;rw[bO.length g]
 ·exact .inl (MV H0 ps Z σ H Hi vs ds o Q e S r k)
theorem E1{e:gi}{fa:AF}{p:u3}(a:Gl X "len")(hm:X.mg "len"=none)(b:bp X e [])(c:DA X [e] fa):DE X (.Call (.Name "len" p) [e] [] pos) (bY uW fa):=jK (bK.or El Ft) IZ a hm XC c (by decide) rfl b rfl
theorem Qj{x:eA}{b pt:u3}{a e:gi}{c:UF}{f:DF}{i:Nat}(j:X.N.findIdx? (·==x)=some i)(k:cc X.env.scope x)(l:X.A.units+1<uz)(hd:bb x)(g:cH x)
 (hs:xn e (some (.Subscript (.Name x b) a pt)) pos.line X.env=pure false)(h:DD X e f)(m:lT X a c):bU X (.Assign [.Subscript (.Name x b) a pt] e pos) (qf i c f):=Pl i l (eN j) k h m hd g hs
structure lU (x:eA):Prop where
 ok:True
theorem N8{x:eA}{a p:u3}{i:Nat}(ht:lU x)(b:X.N.Nodup)(c:X.N.findIdx? (·==x)=some i)(e:Loc X.env.scope x)(f:X.fn x=true\/X.env.scope.names.lookup x=some .local)(hs:xn (.Dict [] [] p) (some (.Name x a)) pos.line X.env=pure false):bU X (.Assign [.Name x a] (.Dict [] [] p) pos) (gS i yp):=vP b c e f hs Ma
end
def yt(a b:dR):It:=⟨fun i H=>∃xs ys x y,Rd H a (.lst xs)/\Rd H b (.lst ys)/\xs[i]?=some x/\ys[i]?=some y,fun i H v c=>∃p x y,H p=none/\v=.ref p/\c=upd H p (.tup [x,y])/\(∀xs,Rd H a (.lst xs)->xs[i]?=some x)/\∀ys,Rd H b (.lst ys)->ys[i]?=some y,fun i H=>∃xs ys,Rd H a (.lst xs)/\Rd H b (.lst ys)/\(xs.length<=i\/ys.length<=i)⟩
theorem OE{P:iN}{w:nE}{K:fj}{elts:List gi}{x1:Nat}{Z:u3}{a b z TI TO g j:dR}(D:ZipApart z TI TO g j a b) :
  Turn P w K (.Tuple elts x1 Z) (yt a b) [z,TI,TO,g,j] z (fun i h=>IsZip h z TI TO .none/\IsPair h TI (.ref g) (.ref j)/\(∃u v,IsPair h TO u v)/\h.IsListIter g a i/\h.IsListIter j b i) where
 mem:=by simp
 obj:=fun i h st c l=>by
  obtain⟨C,F,⟨u,v,J⟩,⟨o1,e1,c1,d1⟩,⟨o2,e2,c2,d2⟩⟩:=st;simp at l
  rcases l with rfl|rfl|rfl|rfl|rfl
  ·exact⟨_,C,fun v z=>by contradiction⟩
  ·exact⟨_,F,fun v z=>by contradiction⟩
  ·exact⟨_,J,fun v z=>by contradiction⟩
  ·exact⟨o1,e1,fun v z=>by rw[d1] at z;contradiction⟩
  ·exact⟨o2,e2,fun v z=>by rw[d2] at z;contradiction⟩
 keep:=fun i h h' st k=>⟨k z (by simp) _ st.1,k TI (by simp) _ st.2.1,st.2.2.1.imp fun u e=>e.imp fun v q=>k TO (by simp) _ q,st.2.2.2.1.at fun o q=>k g (by simp) o q,st.2.2.2.2.at fun o q=>k j (by simp) o q⟩
 item:=by
  intro X hP hw hK d i L s σ H E I G st hg;obtain⟨C,F,⟨u0,v0,J⟩,T,U⟩:=st;obtain⟨xs,ys,x,y,V,N,hx,hy⟩:=hg;obtain⟨_,its,n,rv,ea⟩:=V.ok I.ai;obtain⟨_,its',n',O,Q⟩:=N.ok I.ai;obtain⟨u,hu,ru⟩:=rv.get hx;obtain⟨Y,RO,RP⟩:=O.get hy;have p:=G z (by simp)
  have t:=G TO (by simp)
  have A:=G g (by simp)
  have B:=G j (by simp)
  have lt:∀{c:dR}{o:wm},s.heap.get? c=some o->c≠s.heap.objs.size:=fun e=>gs (eS e)
  refine wpAny_pyNext_zip_item D C F J T U ⟨_,ea,rfl,n,rfl⟩ ⟨_,Q,rfl,n',rfl⟩ (by simpa using hu) (by simpa using RO) fun h3 g1 g2 g3 g4 g5 g6 g7=>?_
  refine⟨_,rfl,wpAny_letOwnedTupleGo_zip g1 fun R f1 M=>?_⟩
  have M:VI z h3 R:=M;have fr:=I.ai.fresh (eB _);have cS:∀c o,c≠z->c≠TO->c≠g->c≠j->s.heap.get? c=some o->R.get? c=some o:=fun c o k1 k2 k3 k4 q=>(M.2 c k1).trans (g7 c o k1 k2 k3 k4 q)
  have ht:=(M.2 _ (Ne.symm (lt C))).trans g5;have f:∀{c:dR},c∉[z,TO,g,j]->c≠z/\c≠TO/\c≠g/\c≠j:=fun {c} h=>⟨fun e=>h (by simp[e]),fun e=>h (by simp[e]),fun e=>h (by simp[e]),fun e=>h (by simp[e])⟩
  have fP:∀c w,H c=some w->c≠z/\c≠TO/\c≠g/\c≠j:=fun c w q=>⟨dh q p.1,dh q t.1,dh q A.1,dh q B.1⟩
  have S:∀c w,H c=some w->c≠s.heap.objs.size:=fun c w q=>dh q fr
  refine⟨.ref s.heap.objs.size,upd H s.heap.objs.size (.tup [x,y]),?_,rfl,⟨_,x,y,fr,rfl,rfl,fun zs C=>by rw[C.Ah V];exact hx,fun zs C=>by rw[C.Ah N];exact hy⟩,⟨f1,?_,⟨u,Y,(M.2 _ D.TOz).trans g2⟩,?_,?_⟩,fun c l=>?_⟩
  ·show Inv X L σ (upd H s.heap.objs.size (.tup [x,y])) {s with heap:=R,gens:=s.gens,drawn:=s.drawn,toks:=s.toks}
   refine Inv.step I (fun b l=>?_) (fun b o _ _ d q _=>cS b o (f d).1 (f d).2.1 (f d).2.2.1 (f d).2.2.2 q) (fun b o _ _ d q _=>⟨o.slots,cS b o (f d).1 (f d).2.1 (f d).2.2.1 (f d).2.2.2 q⟩)
    (fun b o d q n=>by rw[aw (gs (eS q))];exact n) (fun b o d q=>⟨o,cS b o (f d).1 (f d).2.1 (f d).2.2.1 (f d).2.2.2 q⟩) (fun b ys q=>by rw[aw (S b _ q)];exact q) (fun b ob w q=>by rw[aw (S b _ q)];exact q)
    (fun b ps q=>⟨#[],by rw[aw (S b _ q),q];simp⟩) (fun m hm=>?_) (fun b w q=>?_) I.bare
   ·simp at l
    rcases l with rfl|rfl|rfl|rfl
    ·exact⟨p.2.2.2.1,p.2.1,p.2.2.2.2.1,p.2.2.2.2.2⟩
    ·exact⟨t.2.2.2.1,t.2.1,t.2.2.2.2.1,t.2.2.2.2.2⟩
    ·exact⟨A.2.2.2.1,A.2.1,A.2.2.2.2.1,A.2.2.2.2.2⟩
    ·exact⟨B.2.2.2.1,B.2.1,B.2.2.2.2.1,B.2.2.2.2.2⟩
   ·obtain⟨o,es,ep,ho,r⟩:=hm;exact⟨o,es,ep,cS _ o (Ne.symm p.2.1) (Ne.symm t.2.1) (Ne.symm A.2.1) (Ne.symm B.2.1) ho,r⟩
   ·by_cases l:b=s.heap.objs.size
    ·subst l;rw[aU] at q;obtain rfl:=sO q;exact⟨by show 2<=dk;unfold dk;decide,[u,Y],.cons ru (.cons RP .nil),_,ht,rfl,_,rfl⟩
    ·rw[aw l] at q;refine (I.ai b w q).fW (fun c v d r=>?_) (fun c r=>by rw[aw (S c _ r)];exact r) fun c ys r=>by rw[aw (S c _ r)];exact r
     rcases d with rfl|d
     ·exact cS c v (fP _ _ q).1 (fP _ _ q).2.1 (fP _ _ q).2.2.1 (fP _ _ q).2.2.2 r
     ·exact cS c v (fP _ _ d).1 (fP _ _ d).2.1 (fP _ _ d).2.2.1 (fP _ _ d).2.2.2 r
  ·exact cS TI _ D.TIz D.TITO D.TIi1 D.TIi2 F
  ·exact g3.at fun o q=>(M.2 _ D.i1z).trans q
  ·exact g4.at fun o q=>(M.2 _ D.i2z).trans q
  ·have RS:c≠s.heap.objs.size:=by
    obtain⟨o1,e1,_⟩:=T;obtain⟨o2,e2,_⟩:=U;simp at l
    rcases l with rfl|rfl|rfl|rfl|rfl
    ·exact lt C
    ·exact lt F
    ·exact lt J
    ·exact lt e1
    ·exact lt e2
   rw[aw RS];exact (G c l).1
 done:=by
  intro X hP hw hK d i L s σ H E I G st hg;obtain⟨C,F,⟨u0,v0,J⟩,T,U⟩:=st;obtain⟨xs,ys,V,N,hl⟩:=hg;obtain⟨_,its,n,rv,ea⟩:=V.ok I.ai;obtain⟨_,its',n',O,Q⟩:=N.ok I.ai;have l1:=rv.length;have l2:=O.length;refine wpAny_pyNext_zip_end (I.ok.hd d) D C F J T U ⟨_,ea,rfl,n,rfl⟩ ⟨_,Q,rfl,n',rfl⟩ (hl.imp (fun z=>by simp;lia) fun z=>by simp;lia) fun h' k=>?_
  have p:=G z (by simp)
  have t:=G TO (by simp)
  have A:=G g (by simp)
  have B:=G j (by simp)
  have cS:∀c o,c≠z/\c≠TO/\c≠g/\c≠j->s.heap.get? c=some o->h'.get? c=some o:=fun c o q e=>k c o q.1 q.2.1 q.2.2.1 q.2.2.2 e
  have f:∀{c:dR},c∉[z,TO,g,j]->c≠z/\c≠TO/\c≠g/\c≠j:=fun {c} h=>⟨fun e=>h (by simp[e]),fun e=>h (by simp[e]),fun e=>h (by simp[e]),fun e=>h (by simp[e])⟩
  have fP:∀c w,H c=some w->c≠z/\c≠TO/\c≠g/\c≠j:=fun c w q=>⟨dh q p.1,dh q t.1,dh q A.1,dh q B.1⟩
  refine⟨rfl,?_⟩;show Inv X L σ H {s with heap:=h',gens:=s.gens,drawn:=s.drawn,toks:=s.toks}
  refine Inv.step I (fun b l=>?_) (fun b o _ _ d q _=>cS b o (f d) q) (fun b o _ _ d q _=>⟨o.slots,cS b o (f d) q⟩)
   (fun _ _ _ _ n=>n) (fun b o d q=>⟨o,cS b o (f d) q⟩) (fun _ _ q=>q) (fun _ _ _ q=>q) (fun b ps q=>⟨#[],by rw[q];simp⟩) (fun m hm=>?_) (fun b w q=>?_) I.bare
  ·simp at l
   rcases l with rfl|rfl|rfl|rfl
   ·exact⟨p.2.2.2.1,p.2.1,p.2.2.2.2.1,p.2.2.2.2.2⟩
   ·exact⟨t.2.2.2.1,t.2.1,t.2.2.2.2.1,t.2.2.2.2.2⟩
   ·exact⟨A.2.2.2.1,A.2.1,A.2.2.2.2.1,A.2.2.2.2.2⟩
   ·exact⟨B.2.2.2.1,B.2.1,B.2.2.2.2.1,B.2.2.2.2.2⟩
  ·obtain⟨o,es,ep,ho,r⟩:=hm;exact⟨o,es,ep,cS _ o ⟨Ne.symm p.2.1,Ne.symm t.2.1,Ne.symm A.2.1,Ne.symm B.2.1⟩ ho,r⟩
  ·refine (I.ai b w q).fW (fun c v d r=>?_) (fun c r=>r) fun c ys r=>r
   rcases d with rfl|d
   ·exact cS c v (fP _ _ q) r
   ·exact cS c v (fP _ _ d) r
 self:=fun _ _ _ _ _ st h=>aar st.1 h
section
variable{X:Cx}
theorem OL:Hz "zip"=some (.type "zip"):=by decide +kernel
def Fv(d:TA):TI:=fun e H R=>d e H fun vs c=>∃a b xs ys,vs=[.ref a,.ref b]/\Rd c a (.lst xs)/\Rd c b (.lst ys)/\R (yt a b) c
theorem HW{elts:List gi}{v:Nat}{i p pos:u3}{a b:gi}{k:TA}(w:Gl X "zip")(hm:X.mg "zip"=none)(x:PA X [a,b] k)(hs:bp X a [b])(l:(KX pos (lq [b] X.env)).any (·.1)=false):PI X (.Tuple elts v i) (.Call (.Name "zip" p) [a,b] [] pos) (Fv k):=by
 intro j s y H R I h;refine Call_ (mD I w hm OL (Ts (aC (x pos j s y H _ I h) fun us d ⟨vs,z,f,A,B⟩=>?_) hs l))
 obtain⟨a,b,xs,ys,rfl,C,m,q⟩:=B;obtain⟨u,u',rfl,D,o⟩:=A.two;subst D;subst o;obtain⟨_,its,n,rv,e⟩:=C.ok f.ai;obtain⟨_,its',E,rv',r⟩:=m.ok f.ai;refine call_zip_2 ⟨_,e,rfl,n,rfl⟩ ⟨_,r,rfl,E,rfl⟩ fun h' k1 k2 k3 F k5 k6 G=>aar k1 ?_
 refine⟨_,[d.heap.objs.size+4,d.heap.objs.size+2,d.heap.objs.size+3,d.heap.objs.size,d.heap.objs.size+1],_,_,z,rfl,f.kept G,OE (zipApart_new (eS e) (eS r)),⟨k1,k2,⟨_,_,k3⟩,F,k5⟩,fun c t=>?_,q⟩
 have g:d.heap.objs.size<=c:=by
  simp at t
  rcases t with rfl|rfl|rfl|rfl|rfl
  ·exact Wg _ _
  ·exact Wg _ _
  ·exact Wg _ _
  ·exact eB _
  ·exact Wg _ _
 exact f.la g (f.ai.fresh g)
end
noncomputable def mS(a bs:List Dat):List Dat:=(a.zip bs).map fun p=>.tup [p.1,p.2]
def rF(fa:AF):IF:=fun Z=>(fa Z).bind fun p=>match p.1 with
 | [.lst a,.lst bs]=>some (mS a bs,p.2)
 | _=>none
section
variable{X:Cx}{pos:u3}{prog:iN}{w:nE}{A:n6}{E:bR->dr->Prop}{s:dr}
theorem MB{elts:List gi}{N:Nat}{B p:u3}{a b:gi}{fa:AF}(O:Gl X "zip")(hm:X.mg "zip"=none)(hs:bp X a [b])(D:(KX pos (lq [b] X.env)).any (·.1)=false)(P:DA X [a,b] fa):cX X (.Tuple elts N B) (.Call (.Name "zip" p) [a,b] [] pos) (rF fa):=by
 obtain⟨t,Q,q⟩:=P;refine⟨_,HW O hm Q hs D,fun T U Z V H W items Z' R c S k=>?_⟩
 obtain⟨e,Z1,Y,c⟩:=oB c;dsimp only at c;split at c
 ·rename_i e bs;obtain⟨rfl,rfl⟩:=sP c;refine q T U Z V H W _ _ _ Y S fun vs H1 F C s1 r1=>?_
  obtain⟨v,vr,rfl,⟨a',j,rfl,l,rs⟩,v',vr',rfl,⟨b',f,rfl,g,u⟩,rn⟩:=r1;subst rn;have hl:=rs.length;have hl':=u.length;have G:(mS e bs).length=min e.length bs.length:=by unfold mS;rw[a7,ZM]
  refine⟨a',b',j,f,rfl,Rd.mono C.sub l,Rd.mono C.sub g,k _ H1 F C s1 fun i H2 h=>⟨fun d m=>?_,fun I=>⟨j,f,Rd.mono h l,Rd.mono h g,?_⟩⟩⟩
  ·have hi:i<min e.length bs.length:=by rw[<-G];exact (bt.mp m).1
   have J:i<e.length:=by omega
   have K:i<bs.length:=by omega
   have L:d=.tup [e[i],bs[i]]:=by
    unfold mS at m;rw[eo,(VY (z:=(e[i],bs[i]))).mpr ⟨cA J,cA K⟩] at m;exact (Option.some.inj m).symm
   subst L;obtain⟨x,ex,rx⟩:=rs.get (cA J);obtain⟨y,M,ry⟩:=u.get (cA K);refine⟨⟨j,f,x,y,Rd.mono h l,Rd.mono h g,ex,M⟩,fun v H3 yl=>.inr ?_⟩
   obtain⟨p,x',y',hp,rfl,rfl,o,r⟩:=yl;have o:=o j (Rd.mono h l);have r:=r f (Rd.mono h g);rw[ex] at o;rw[M] at r;obtain rfl:=sO o;obtain rfl:=sO r;exact⟨p,_,hp,rfl,fun Hi' s3 n=>⟨p,_,rfl,aV.of aU,_,_,rfl,(rx.mono s3).mono (i7 n),_,_,rfl,(ry.mono s3).mono (i7 n),rfl⟩⟩
  ·rw[G] at I
   lia
 ·exact nO c
theorem qT:∀{a:List eA}{us:List bR},aD (a.map V.str) us->Wl us a
 | [],_,h=>by cases h;exact .nil
 | x::a,_,h=>by
  cases h with
  | cons r t =>
   obtain⟨k,e⟩:=(r)
   subst e;exact .cons x k (qT t)
def vz:List V->Hp->VK->Prop:=fun xs H Q=>∃p a,xs=[.ref p]/\Rd H p (.lst (a.map V.str))/\a.length<64/\∀l,H l=none->Q (.ref l) (upd H l (.lst ((br a).map V.str)))
theorem EG:bK X (.builtin "sorted") vz:=by
 intro pins s σ H xs us Q I r h;obtain⟨p,b,rfl,j,h64,q⟩:=h;obtain⟨u,rfl,k⟩:=r.one;subst k;obtain⟨z,its,n,f,e⟩:=j.ok I.ai;have d:=qT f;have hl:its.length<64:=by
  have:=f.length;rw[a7] at this;omega
 refine sortedK YV ⟨_,e,rfl,n,rfl⟩ d.keysOf (fun v₁ v₂ rest e=>Zq (by rw[<-e];exact d)) hl fun g m hs=>?_
 obtain⟨ss',i,t,v⟩:=xP d m hs;obtain⟨c,x⟩:=sortedAll_at s.heap its ((ZJ g).map (·.2));rw[pC t v] at i;have y:((br b).map V.str).length<=sizeLine:=by
  have B:(br b).length=b.length:=(hA b cB).length_eq;simp[zd];omega
 exact⟨.ref (s.heap.objs.size+1),_,I.laid (o:=.lst ((br b).map V.str)) (fun _ _=>sortedAll_old) (WL _) ⟨y,_,c,tU i,by simp only[WG];exact x⟩,rfl,q _ (I.ai.fresh (WL _))⟩
def uh:List Dat->Option Res
 | [.lst ds]=>match dv ds with
  | some a=>if a.length<64 then some (.own (.lst ((br a).map .str))) else none
  | none=>mL [.lst ds]
 | ds=>mL ds
theorem Jm:CD X (fun xs H Q=>(fun xs H Q=>rV X.K xs H Q\/sU xs H Q) xs H Q\/vz xs H Q) uh:=by
 intro c d Z e H b vs ds o Q a S r k;delta uh at a;split at a
 ·split at a
  ·rename_i f g;split at a
   ·rename_i h;obtain rfl:=sO a;obtain⟨v,vr,rfl,⟨p,ws,rfl,i,rs⟩,j⟩:=r;subst j;have m:=lg g rs;subst m;refine .inr ⟨p,f,rfl,Rd.mono S.sub i,h,fun l hl=>?_⟩
    exact k (.ref l) _ b (S.made hl) (ag.refl _) ⟨l,rfl,⟨_,aU,qd _,S.dj hl⟩,(S.bI hl).2,(S.bI hl).1,S.dP hl⟩
   ·exact nO a
  ·exact .inl (yO c d Z e H b vs _ o Q a S r k)
 ·exact .inl (yO c d Z e H b vs _ o Q a S r k)
noncomputable def uO:List Dat->Option Res
 | [.lst ds]=>some (.own (.lst ds))
 | [.tup ds]=>some (.own (.lst ds))
 | _=>none
theorem M2:CD X (fun xs H Q=>∃p vs,xs=[.ref p]/\(cf X.K H p vs\/aV X.K H p vs)/\∀l,H l=none->Q (.ref l) (upd H l (.lst vs))) uO:=by
 intro H0 ps Z σ H f vs ds o Q e S r k;delta uO at e;split at e
 ·cases e;obtain⟨v,g,rfl,⟨a,b,rfl,c,rs⟩,d⟩:=r;cases d;refine⟨a,b,rfl,.inl (.inl (Rd.mono S.sub c)),fun l hl=>?_⟩
  exact k (.ref l) _ f (S.made hl) (ag.refl _) ⟨l,rfl,⟨_,aU,rs,S.dj hl⟩,(S.bI hl).2,(S.bI hl).1,S.dP hl⟩
 ·cases e;obtain⟨v,g,rfl,⟨a,b,rfl,c,rs⟩,d⟩:=r;cases d;refine⟨a,b,rfl,.inr (aV.mono S.sub c),fun l hl=>?_⟩
  exact k (.ref l) _ f (S.made hl) (ag.refl _) ⟨l,rfl,⟨_,aU,rs,S.dj hl⟩,(S.bI hl).2,(S.bI hl).1,S.dP hl⟩
 ·exact nO e
theorem GL{e:gi}{fa:AF}{p:u3}(a:Gl X "list")(hm:X.mg "list"=none)(b:bp X e [])(c:DA X [e] fa):DE X (.Call (.Name "list" p) [e] [] pos) (bY uO fa):=qX Ll M2 a hm (by decide +kernel) c (by decide) rfl b rfl
theorem Qn{a:dR}{o:wm}{vs:List bR}{j:List eA}{n:Nat}{Q:bR->dr->Prop}(t:s.heap.get? a=some o)(u:o.cls=.type "tuple")(v:o.data=.seq vs.toArray n)(g:Wl vs j)(k:vs.length<64)
 (q:∀(d h:nS) (c:Nat) (f:List bR),(∀b ob,s.heap.get? b=some ob->d.get? b=some ob)->(∀b ob,d.get? b=some ob->h.get? b=some ob)->h.get? d.objs.size=some (Vt "list" f.toArray c)->Wl f (br j)->Q (.ref d.objs.size) {s with heap:=h}):gW (ib prog w) A (call (.builtin "sorted") [.ref a]) Q E s:=by
 refine VR kind_sorted plain_sorted entry_sorted (args_sorted1 _) ?z;delta Vs.«sorted»
 refine cn (eK (cn (wpAny_collect_seq a (.inr rfl) t u v (fun d k1=>?F) (by simp;rw[zd];omega))))
 refine cn (YL ?G);have i:(d.push (Vt "list" vs.toArray 0)).get? d.objs.size=some (Vt "list" vs.toArray 0):=hG _ rfl;refine cn (sH (wy Yx ⟨_,i,rfl⟩ Yf (aa6 YV i g.keysOf (fun v₁ v₂ rest e=>Zq (by rw[<-e];exact g)) k fun l a1 x=>⟨_,rfl,?H⟩) (Yy _)))
 obtain⟨ss',p,y,B⟩:=xP g a1 x;obtain⟨c,C⟩:=abv i;rw[pC y B] at p;refine eK ⟨_,rfl,q d _ c _ k1 (fun b ob e=>?I) (by simp only[WG];exact C) p⟩
 have D:=gs (eS e);have r:(d.push (Vt "list" vs.toArray 0)).get? b=some ob:=eu _ e;exact (abk D (eS r)).trans r
def D3(K:fj):List V->Hp->VK->Prop:=fun xs H Q=>∃p a,xs=[.ref p]/\aV K H p (a.map V.str)/\a.length<64/\∀l,H l=none->Q (.ref l) (upd H l (.lst ((br a).map V.str)))
theorem J5:bK X (.builtin "sorted") (D3 X.K):=by
 intro pins s σ H xs us Q I r h;obtain⟨p,b,rfl,i,h64,q⟩:=h;obtain⟨u,rfl,j⟩:=r.one;subst j;obtain⟨its,e,⟨o,d,k,n,l⟩,_⟩:=I.tuple i;have m:=qT e;have hl:its.length<64:=by
  have:=e.length;rw[a7] at this;lia
 refine Qn d k l m hl fun f g2 c vs' k1 k2 t v=>?_
 have g:=I.kept (t':=s.toks) k1;have x:((br b).map V.str).length<=sizeLine:=by
  have d:(br b).length=b.length:=(hA b cB).length_eq;simp[zd]
  lia
 exact⟨.ref f.objs.size,_,g.laid (o:=.lst ((br b).map V.str)) k2 (eB _) ⟨x,_,c,tU v,t⟩,rfl,q _ (g.ai.fresh (eB _))⟩
def lK:List Dat->Option Res
 | [.tup ds]=>(dv ds).bind fun a=>if a.length<64 then some (.own (.lst ((br a).map .str))) else none
 | ds=>uh ds
theorem Kw:CD X (fun xs H Q=>((fun xs H Q=>rV X.K xs H Q\/sU xs H Q) xs H Q\/vz xs H Q)\/D3 X.K xs H Q) lK:=by
 intro c d Z e H b vs ds o Q a S r k;delta lK at a;split at a
 ·obtain⟨f,g,a⟩:=oA a;split at a
  ·rename_i h;obtain rfl:=sO a;obtain⟨v,vr,rfl,⟨p,ws,rfl,i,rs⟩,j⟩:=r;subst j;have m:=lg g rs;subst m;refine .inr ⟨p,f,rfl,aV.mono S.sub i,h,fun l hl=>?_⟩
   exact k (.ref l) _ b (S.made hl) (ag.refl _) ⟨l,rfl,⟨_,aU,qd _,S.dj hl⟩,(S.bI hl).2,(S.bI hl).1,S.dP hl⟩
  ·exact nO a
 ·exact .inl (Jm c d Z e H b vs _ o Q a S r k)
theorem zt{e:gi}{fa:AF}{p:u3}(a:X.ex=[])(b:X.calm=true)(c:Gl X "sorted")(hm:X.mg "sorted"=none)(d:bp X e [])(f:DA X [e] fa):DE X (.Call (.Name "sorted" p) [e] [] pos) (bY lK fa) :=
 jK (bK.or (bK.or (bK.or (N5 a) (JU a b)) EG) J5) Kw c hm (by decide +kernel) f (by decide) rfl d rfl
def Ra(te:TE):TE:=fun b H Q=>te b H fun v a=>∃d kvs,v=.ref d/\a d=some (.dK kvs)/\∀o,Q v (upd a d (.a9 o (.dK kvs)))
theorem OC{e:gi}{te:TE}(c:PE X e te):PE X e (Ra te):=by
 intro a s f H Q I h;refine aC (c a s f H _ I h) fun v s1 ⟨y,H1,b,g,i⟩=>?_
 obtain⟨d,kvs,rfl,hd,q⟩:=i;obtain⟨z,lo,vs,kv,o,es,ep,ho,rest⟩:=b.ai d _ hd;exact⟨.ref d,_,b.a9 hd ho,g,q o⟩
structure Dq (x:eA):Prop where
 ok:True
noncomputable def sg(f:EF):EF:=fun Z=>(f Z).bind fun p=>match p.1 with
 | .own (.bM a)=>some (.dat (.dC a),p.2)
 | _=>none
theorem Rl{e:gi}{f:EF}(h:DE X e f):DE X e (sg f):=by
 obtain⟨t,p,q⟩:=h;refine⟨_,OC p,fun d g Z i H j r Z' Q a S k=>?_⟩
 obtain⟨r1,Z1,l,a⟩:=oB a;dsimp only at a;split at a
 ·obtain⟨rfl,rfl⟩:=sP a;refine q d g Z i H j _ _ _ l S fun v H1 Hi1 m n u=>?_
  obtain⟨p,rfl,b,nl,x,nd⟩:=u;obtain⟨kvs,y,z,np⟩:=id b;refine⟨p,kvs,rfl,y,fun o=>?_⟩
  obtain⟨B,c⟩:=m.held b nl x nd;exact k _ _ _ B (n.trans c) ⟨p,o,kvs,rfl,aU,z.mono c⟩
 ·exact nO a
theorem OU{x:eA}{e:gi}{f:EF}{a:u3}{i:Nat}(ht:Dq x)(b:X.N.Nodup)(c:X.N.findIdx? (·==x)=some i)(d:Loc X.env.scope x)(g:X.fn x=true\/X.env.scope.names.lookup x=some .local)(hs:xn e (some (.Name x a)) pos.line X.env=pure false)(h:DE X e f):bU X (.Assign [.Name x a] e pos) (gS i (sg f)):=vP b c d g hs (Rl h)
noncomputable def mj:Dat->Dat->Option Res
 | .int i,.int j=>some (.dat (.bl (decide (i<j))))
 | .str x,.str y=>some (.dat (.bl (decide (x.cps.toList<y.cps.toList))))
 | _,_=>none
theorem yB:eF X (fun x y H Q=>(gX fun i j=>.bl (decide (i<j))) x y H Q\/(fun x y H Q=>∃i j,x=.str i/\y=.str j/\Q (.bl (decide (i.cps.toList<j.cps.toList))) H) x y H Q) mj:=by
 intro H0 ps Z σ H a x y d d' o Q e S b c k;delta mj at e;split at e
 ·cases e;subst b;subst c;exact .inl ⟨_,_,rfl,rfl,k _ H a S (ag.refl _) rfl⟩
 ·obtain rfl:=sO e;subst b;subst c;exact .inr ⟨_,_,rfl,rfl,k _ H a S (ag.refl _) rfl⟩
 ·exact nO e
theorem QA{a b:gi}{f g:DF}(c:DD X a f)(d:DD X b g):DE X (.Compare a [.Lt] [b] pos) (cw mj f g):=oP (aI.or CJ yT) yB c d (j6 _)
theorem PH{a b:gi}{f g:DF}(c:DD X a f)(d:DD X b g):DT X (.Compare a [.Lt] [b] pos) (fF (cw mj f g)):=mf (aI.or CJ yT) yB c d (j6 _)
end
section
open Sem (wp)
section
variable{prog:iN}{w:nE}{A:n6}{E:bR->dr->Prop}{β:Type}
theorem Cq{f:Nat->β->Sem (ForInStep β)}{b r:β}{s s':dr}{Q:β->dr->Prop}:∀(m k j:Nat),j<m->(∀i,k<=i->i<k+j->∀R:ForInStep β->dr->Prop,R (.yield b) s->gW (ib prog w) A (f i b) R E s)->(∀R:ForInStep β->dr->Prop,R (.done r) s'->gW (ib prog w) A (f (k+j) b) R E s)->Q r s' ->
  gW (ib prog w) A (forIn (List.range' k m) b f) Q E s
 | 0,_,_,h,_,_,_=>absurd h (Ww _)
 | m+1,k,0,h,_,hd,q=>by
  exact cn (hd _ (eK q))
 | m+1,k,j+1,h,a,hd,q=>by
  rw[Zw,Wt];refine cn (a k (eB _) (by lia) _ ?_)
  exact Cq m (k+1) j (by lia) (fun i h1 h2=>a i (by lia) (by lia)) (by rw[show k+1+j=k+(j+1) from by lia];exact hd) q
end
section
variable{prog:iN}{w:nE}{A:n6}{E:bR->dr->Prop}{h:nS}{g:Array XI}{d:Drawn}{t:Nat}{os:OsState}
theorem Pu{l:dR}{its:Array bR}{n j:Nat}{x:eA}{tx:Tok}{a:List eA}{Q:Fin->dr->Prop}{o:wm}(hl:h.get? l=some o)(f:o.cls=.type "tuple")(hd:o.data=.seq its n)(k:Wl its.toList a)(p:a[j]?=some x)(s:∀i,i<j->a[i]?≠some x)
 (q:Q (.done (.ret (.int (j:Int) t))) ⟨h,g,d,t+1,os⟩) :
  gW (ib prog w) A (Vs.«tuple.index» ⟨[.ref l,.str x tx],[]⟩) Q E ⟨h,g,d,t,os⟩:=by
 obtain⟨cl,bM,dat,sl⟩:=o;subst f hd;have len:a.length=its.size:=by rw[<-k.strs];simp
 have v:j<its.size:=by
  have:=(bt.mp p).1;omega
 have at_:∀i (b:i<its.size),∃y u,its[i]?=some (NN y u)/\a[i]?=some y:=fun i b=>by
  obtain⟨y,u,e⟩:=k.all its[i] (by simp)
  refine⟨y,u,by rw[ma b,e],?_⟩
  simp only[<-k.strs,eo,n7,ma b,e];rfl
 unfold Vs.«tuple.index»
 simp only[ZQ]
 repeat (any_goals (first|assumption|(with_reducible refine Cq (r:=(some (.done (.ret (.int (j:Int) t))),())) (s':=⟨h,g,d,t+1,os⟩) _ _ j ?B ?C ?D ?F)|wp_step))
 case B =>
  simp[ZP];omega
 case C =>
  intro i _ b R r;obtain⟨y,u,m,c⟩:=at_ i (by lia)
  rw[m];refine cn (Vz ?_);rw[decide_eq_false (fun z=>s i (by lia) (by simp only[c,z])),if_neg t8]
  exact eK r
 case D =>
  intro R r;rw[z5];obtain⟨y,u,m,c⟩:=at_ j v;rw[p] at c;obtain rfl:=sO c;rw[m];refine cn (Vz ?_);rw[decide_eq_true rfl,if_pos rfl];refine cn ?_;unfold retInt;exact cn (wpAny_mkInt (eK (eK r)))
end
end
section
variable{X:Cx}
def N7(K:fj):V->List V->Hp->VK->Prop:=fun x vs H Q=>∃(p:dR) (a:List eA) (y:eA) (j:Nat),x=.ref p/\vs=[.str y]/\aV K H p (a.map V.str)/\a[j]?=some y/\(∀i,i<j->a[i]?≠some y)/\Q (.int (j:Int)) H
theorem FF:sZ X "tuple.index" (N7 X.K):=by
 intro pins s σ H x vs v us Q I d e h;obtain⟨p,ss,y,j,rfl,rfl,f,g,i,q⟩:=h;subst d;obtain⟨u,rfl,k⟩:=e.one;obtain⟨t,rfl⟩:=(k)
 obtain⟨its,a,⟨o,b,c,n,l⟩,_⟩:=I.tuple f;have m:=qT a;refine wy Ys ⟨_,b,c⟩ F.entry_tuple_index ?_ (F.args_tuple_index_2 _ _);exact Pu b c l (m) g i ⟨_,rfl,.int (j:Int),H,I.tok _,⟨_,rfl⟩,q⟩
structure wq (K:fj) (mg:eA->Option bR) (x:eA) (ss:List eA):Prop where
 is:∃(p:dR) (o:wm) (its:Array bR) (n:Nat),mg x=some (.ref p)/\K.lookup p=some o/\o.cls=.type "tuple"/\o.dict=none/\o.data=.seq its n/\its.size<=dk/\aD (ss.map V.str) its.toList
noncomputable def yA(a:List eA)(fa:AF):DF:=fun Z=>(fa Z).bind fun q=>match q.1 with
 | [.str y]=>if y∈a then some (.int ((a.idxOf y:Nat):Int),q.2) else none
 | _=>none
theorem B4{b:List eA}{y:eA}(h:y∈b):b[b.idxOf y]?=some y/\∀i,i<b.idxOf y->b[i]?≠some y:=by
 induction b with
 | nil=>contradiction
 | cons a r d =>
  by_cases e:a=y
  ·subst e;rw[List.idxOf_cons_self];exact⟨rfl,fun i f=>absurd f (Ww _)⟩
  ·have h:y∈r:=by
    rcases ey.mp h with rfl|h
    ·exact absurd rfl e
    ·exact h
   have g:(a::r).idxOf y=r.idxOf y+1:=by
    have c:(a==y)=false:=by
     cases c:a==y with
     | false=>rfl
     | true=>exact absurd (eq_of_beq c) e
    rw[List.idxOf_cons,c];rfl
   rw[g];refine⟨by simpa using (d h).1,fun i f=>?_⟩
   cases i with
   | zero=>simpa using e
   | succ i =>
    simpa using (d h).2 i (by lia)
theorem Jz{x:eA}{f:List eA}{e:gi}{h pos c:u3}{fa:AF}(g:wq X.K X.mg x f)(A:Gl X x)(hd:bb x)(i:VH (.Name x h) "index" X.env (eval (.Name x h) X.env)=eval (.Name x h) X.env)
 (l:pU X pos e)
 (j:(c.endLine==pos.line)=true)(hs:bp X e [])(B:DA X [e] fa):DD X (.Call (.Attribute (.Name x h) "index" c) [e] [] pos) (yA f fa):=by
 obtain⟨t,p,q⟩:=B;obtain⟨a,o,its,n,m,r,s,C,D,E,G⟩:=g.is;refine⟨_,sN PySem.F.plainAttrs_tuple Ys PySem.F.type_tuple_index FF (js (v:=.ref a) A m rfl hd) p i l j hs rfl,fun I J Z L H M d Z' Q b S k=>?_⟩
 obtain⟨as,Z2,m,b⟩:=oB b;dsimp only at b;split at b
 ·split at b
  ·rename_i y u;obtain⟨rfl,rfl⟩:=sP b;refine⟨.inr (.inl ⟨rfl,o,r,s,C⟩),q I J Z L H M _ _ _ m S fun vs N w O P R=>?_⟩
   obtain⟨z,yr,rfl,T,U⟩:=R;subst U;subst T;exact⟨a,f,y,f.idxOf y,rfl,rfl,.inr ⟨o,its,n,r,s,D,E,G⟩,(B4 u).1,(B4 u).2,k _ N w O P rfl⟩
  ·exact nO b
 ·exact nO b
noncomputable def ow:Nat:=1000
theorem Gn{c:gi}{body:List Uz}{pos:u3}{fc:BF}{fb:SF}(a:W4 (ib X.prog X.w) X.A X.env X.xe)(b:DT X c fc)(d:fG X body fb):bU X (.While c body [] pos) (gw fc fb ow):=F5 ow a b d
theorem MF{b:gi}{x:eA}{c:u3}{i:Nat}(ht:lU x)(d:X.N.findIdx? (·==x)=some i)(e:cc X.env.scope x)(hd:bb x)(a:cH x):cX X b (.Name x c) (vd i):=GI d e hd a
theorem NU{b:gi}{g:eA}{p pos:u3}{a:List gi}{f:EF}(ht:lU g)(h:DE X (.Call (.Name g p) a [] pos) f):cX X b (.Call (.Name g p) a [] pos) (sQ f):=LL h
end
section
variable{X:Cx}{e k:gi}{te tk:TE}{p2 pos:u3}
def Qd(K:fj):V->Hp->VK->Prop:=fun x H Q=>∃a xs,x=.ref a/\cf K H a xs/\∀p,H p=none->Q (.ref p) (upd H p (.lst xs.reverse))
def QR(K:fj)(te tk:TE):TE:=fun a H Q=>te a H fun x b=>tk a b fun i c=>i=.int (-1)/\Qd K x c Q
theorem aD.rev{xs:List V}{vs:List bR}(h:aD xs vs):aD xs.reverse vs.reverse:=by
 induction h with
 | nil=>exact .nil
 | cons a b c=>simp only[VZ,VZ];exact c.append (.cons a .nil)
theorem Nt(l:PE X e te)(m:PE X k tk):PE X (.Subscript e (.Slice none none (some k) p2) pos) (QR X.K te tk):=by
 intro c s d H Q I h;refine Yz (aC (l c s d H _ I h) fun v n ⟨x,p,t,u,w⟩=>?_)
 refine wpAny_Slice ?_;refine eK (eK ?_);refine aC (m c n d p _ t w) fun vk s3 ⟨i,y,z,A,B⟩=>?_
 obtain⟨rfl,a,xs,rfl,C,q⟩:=B;subst u;obtain⟨tk,rfl⟩:=A;have f:Inv X c d y {s3 with heap:=s3.heap.push {cls:=.type "slice",data:=.fields #[.none,.none,.int (-1) tk]} }:=z.kept (t':=s3.toks) fun b ob q=>eu _ q
 obtain⟨its,r,g,j⟩:=f.list C;refine abj g.isList.typeIs XA.lookup ?_ (by with_unfolding_all rfl)
 refine YM g.isList (Xn ..) .none .none (.int (-1) tk) (by simp) ?_ (by rw[eT,<-r.length];exact j)
 rw[W.krv_pick];refine⟨.ref _,_,f.laid (fun b ob q=>eu _ q) (eB _) ?_,rfl,q _ (f.ai.fresh (eB _))⟩
 exact⟨by rw[N'];exact j,_,0,aD.rev r,hG _ rfl⟩
noncomputable def LW:Dat->Option Res
 | .lst ds=>some (.own (.lst ds.reverse))
 | _=>none
def r8(f g:DF):EF:=fun Z=>(f Z).bind fun p=>(g p.2).bind fun q=>match q.1 with|.int i=>if i=-1 then (LW p.1).map fun o=>(o,q.2) else none|_=>none
theorem ax.rev{K:fj}{H:Hp}:∀{ds:List Dat}{vs:List V},ax K H ds vs->ax K H ds.reverse vs.reverse
 | [],_,h=>by rw[show _=[] from h];exact rfl
 | _::_,_,⟨v,r,e,q,t⟩=>by simp only[e,VZ,VZ];exact ax.append (ax.rev t) ⟨v,[],rfl,q,rfl⟩
theorem Fp{f g:DF}(u:DD X e f)(w:DD X k g):DE X (.Subscript e (.Slice none none (some k) p2) pos) (r8 f g):=by
 obtain⟨t,p,q⟩:=u;obtain⟨th,x,y⟩:=w;refine⟨_,Nt p x,fun j l Z m H A o Z' Q b S B=>?_⟩
 obtain⟨d,Z1,C,b⟩:=oB b;dsimp only at b;obtain⟨a,Z2,D,b⟩:=oB b;dsimp only at b;split at b
 ·rename_i i
  by_cases n:i=-1
  case neg=>rw[if_neg n] at b;exact nO b
  subst n;refine q j l Z m H A d Z1 _ C S fun v E r F G I=>?_
  refine y j l Z1 m E r _ Z2 _ D F fun v2 H3 s c s3 J=>?_
  subst J;have K:=Rep.mono s3 I;cases d with
  | lst ds =>
   obtain⟨rfl,rfl⟩:=sP b;obtain⟨p,vs,rfl,L,rs⟩:=K;refine⟨rfl,p,vs,rfl,.inl (Rd.mono c.sub L),fun z h=>?_⟩
   exact B (.ref z) _ s (c.made h) (G.trans s3) ⟨z,rfl,⟨_,aU,ax.rev rs,c.dj h⟩,(c.bI h).2,(c.bI h).1,c.dP h⟩
  | _=>exact nO b
 ·exact nO b
theorem K1:bK X (.builtin "abs") (fun xs H Q=>∃i,xs=[.int i]/\Q (.int (if i<0 then -i else i)) H):=by
 intro pins s σ H xs us Q I r h;obtain⟨i,rfl,q⟩:=h;obtain⟨u,rfl,t,rfl⟩:=vals1 r;exact call_abs_int fun u tk=>⟨.int _,H,I.tok _,⟨_,rfl⟩,q⟩
theorem NC{fa:AF}{p:u3}(a:Gl X "abs")(hm:X.mg "abs"=none)(b:bp X e [])(c:DA X [e] fa):DE X (.Call (.Name "abs" p) [e] [] pos) (bY tJ fa):=jK K1 MQ a hm (by decide +kernel) c (by decide) rfl b rfl
theorem J7{d a b:gi}{f:AF}{p pos:u3}(g:Gl X "range")(hm:X.mg "range"=none)(hs:lq [a,b] X.env=[(false,eval a X.env),(false,eval b X.env)])(c:lq [b] X.env=[(false,eval b X.env)])(h:DA X [a,b] f):cX X d (.Call (.Name "range" p) [a,b] [] pos) (pz f):=Qw g hm h hs c
end
section
variable{X:Cx}{e:gi}{pos:u3}{P:iN}{w:nE}{K:fj}{mg:eA->Option bR}{base:nS}{H Hi Hi1:Hp}
noncomputable def codes(x:List eA):List (List Nat):=x.map fun a=>a.cps.toList
theorem DM:∀{a b:List eA},codes a=codes b->a=b
 | [],[],_=>rfl
 | [],_::_,h=>by contradiction
 | _::_,[],h=>by contradiction
 | x::a,y::b,h=>by
  have h:=List.cons.inj h;rw[kY h.1,DM h.2]
def mX(fs:List (List eA))(i j:Nat):Bool:=decide (codes (fs.getD i [])<codes (fs.getD j []))
theorem wz{a b:List eA}(h:¬codes a<codes b)(h':¬codes b<codes a):a=b:=DM (Vm (LS.mp h') (LS.mp h))
theorem Qs{fs:List (List eA)}(nd:fs.Nodup):Ord (mX fs) fs.length where
 trans:=fun i j k c a=>decide_eq_true (U1 (of_decide_eq_true c) (of_decide_eq_true a))
 total:=fun i j d f b=>by
  delta mX;rw[dD d,dD f]
  by_cases h:codes fs[i]<codes fs[j]
  ·exact .inl (decide_eq_true h)
  ·refine .inr (decide_eq_true ?_)
   by_cases a:codes fs[j]<codes fs[i]
   ·exact a
   ·exact absurd ((um nd).mp (wz h a)) b
 fM:=fun i=>decide_eq_false (P2 _)
theorem Aw{prog:iN}{w:nE}{A:n6}{b:Bool}{Q:Bool->dr->Prop}{s:dr}:∀(xs ys:List eA) (us a:List bR) (i:Nat),aD (xs.map V.str) us->aD (ys.map V.str) a->Q (decide (codes xs<codes ys)) s->W.KatLex prog w A b (decide (us.length<a.length)) Q (us.zip a) i s
 | [],ys,us,a,i,d,c,q=>by
  cases d;have:decide (codes []<codes ys)=decide (([]:List bR).length<a.length):=by
   rw[<-c.length,a7];cases ys with
   | nil=>rfl
   | cons y ys=>exact (decide_eq_true (List.nil_lt_cons _ _)).trans (decide_eq_true (Nat.succ_pos _)).symm
  rw[this] at q;exact W.kat_nil q
 | x::xs,[],us,a,i,d,c,q=>by
  cases c;rw[show decide (codes (x::xs)<codes [])=decide (us.length<([]:List bR).length) from (decide_eq_false (List.not_lt_nil _)).trans (decide_eq_false (Ww _)).symm] at q
  rw[List.zip_nil_right];exact W.kat_nil q
 | x::xs,y::ys,_,_,i,.cons f g,.cons j k,q=>by
  obtain⟨k1,rfl⟩:=f;obtain⟨k2,rfl⟩:=j;refine ZH (Vz ?_)
  by_cases e:x=y
  ·subst e;rw[decide_eq_true rfl];refine W.kat_yes ?_;rw[show decide ((NN x k1::_).length<(NN x k2::_).length)=decide (_<_) from decide_eq_decide.mpr Nat.succ_lt_succ_iff]
   refine Aw xs ys _ _ (i+1) g k ?_;have:decide (codes (x::xs)<codes (x::ys))=decide (codes xs<codes ys):=decide_eq_decide.mpr ⟨fun h=>(HT.mp h).elim (fun z=>absurd z (P2 _)) fun z=>z.2,fun h=>HT.mpr (.inr ⟨rfl,h⟩)⟩
   rw[this] at q;exact q
  ·rw[decide_eq_false e];have:decide (codes (x::xs)<codes (y::ys))=decide (x.cps.toList<y.cps.toList):=decide_eq_decide.mpr ⟨fun h=>(HT.mp h).elim id fun z=>absurd (kY z.1) e,fun h=>HT.mpr (.inl h)⟩
   rw[this] at q;refine aaz ?_;cases b&&i==0 with
   | true=>exact oneLt_str q
   | false=>exact W.kat_one _ _ (lt_str q)
def D8(K:fj)(H:Hp)(vs:List V)(fs:List (List eA)):Prop:=vs.length=fs.length/\∀(i:Nat) (f:List eA),fs[i]?=some f->f≠[]/\∃a,vs[i]?=some (.ref a)/\aV K H a (f.map V.str)
def D0(K:fj):List V->Hp->VK->Prop:=fun xs H Q=>∃p vs fs,xs=[.ref p]/\Rd H p (.lst vs)/\D8 K H vs fs/\fs.Nodup/\vs.length<64/\∀out,uV (mX fs) vs out->∀l,H l=none->Q (.ref l) (upd H l (.lst out))
theorem K4(A:X.ex=[]):bK X (.builtin "sorted") (D0 X.K):=by
 intro pins s σ H xs us Q I r h;obtain⟨p,vs,fs,rfl,E,tx,nd,B,q⟩:=h;obtain⟨u,rfl,F⟩:=r.one;subst F;refine xb A (T:=.type "str") I E B (by rw[tx.1];exact Qs nd) rfl (fun its c=>?_) (fun its c i j G J hij h' d C L=>?_) q
 ·have M:lI X.K H vs (fs.map fun f=>f.headD UJ):=⟨by rw[a7];exact tx.1,fun i f e=>by
   rw[eo] at e;obtain⟨g,N,rfl⟩:=j'.mp e;obtain⟨O,a,z,R⟩:=tx.2 i g N;refine⟨a,_,z,R,?_⟩;cases g with
   | nil=>exact absurd rfl O
   | cons y g=>rfl⟩
  obtain⟨S,k1,k2,k3,_⟩:=kat_tups I M c;refine⟨S,k1,by rw[k2,a7];exact tx.1.symm,fun v U h=>?_⟩
  obtain⟨x,t,rfl⟩:=k3 v U;exact Xa rfl
 ·have k:i<fs.length:=by rw[<-tx.1];exact G
  have l:j<fs.length:=by rw[<-tx.1];exact J
  obtain⟨_,a,z,V⟩:=tx.2 i _ (cA k);obtain⟨_,b,Y,Z⟩:=tx.2 j _ (cA l);obtain⟨_,e1,r1⟩:=c.get z;obtain⟨_,e2,r2⟩:=c.get Y;subst r1;subst r2;obtain⟨us,v1,⟨o,ho,hc,n,hd⟩,_⟩:=I.tuple V;obtain⟨ws,v2,⟨o',D,hc',n',m⟩,_⟩:=I.tuple Z;simp only[mA,e1,e2];refine aaA (d _ _ _ _ hd ho) hd (d _ _ _ _ m D) m ?_;refine Aw fs[i] fs[j] us ws 0 v1 v2 ?_;have:mX fs i j=decide (codes fs[i]<codes fs[j]):=by delta mX;rw[dD k,dD l]
  rw[<-this];exact L
noncomputable def tupS(f:List eA):Dat:=.tup (f.map .str)
noncomputable def tM:List Dat->Option (List (List eA))
 | []=>some []
 | .tup ds::l=>(dv ds).bind fun x=>if x.isEmpty then none else (tM l).map (x::·)
 | _=>none
def ly(a b:List eA):Bool:=!decide (codes b<codes a)
def wg(fs:List (List eA)):List (List eA):=fs.mergeSort ly
theorem nP{a b:List eA}:ly a b=true ↔ ¬codes b<codes a:=by
 delta ly;rw[pl,decide_eq_false_iff_not]
def tf:List Dat->Option Res
 | [.lst ds]=>(tM ds).bind fun fs=>if fs.Nodup/\fs.length<64 then some (.own (.lst ((wg fs).map tupS))) else none
 | _=>none
theorem DK{K:fj}{H Hi:Hp}(s:ag Hi H):∀{ds:List Dat}{vs:List V}{fs:List (List eA)},tM ds=some fs->ax K Hi ds vs->D8 K H vs fs/\ax K Hi (fs.map tupS) vs
 | [],_,_,e,r=>by
  obtain rfl:=sO e;rw[show _=[] from r]
  exact⟨⟨rfl,fun i f e=>by simp at e⟩,rfl⟩
 | d::ds,_,_,e,⟨v,g,h,j,rs⟩=>by
  cases d with
  | tup us =>
   obtain⟨x,k,e⟩:=oA e;split at e
   ·exact nO e
   ·rename_i l;obtain⟨ys,m,e⟩:=oM e;obtain rfl:=sO e;obtain⟨⟨n,o⟩,p⟩:=DK s m rs;obtain⟨a,ws,rfl,b,c⟩:=j;have q:=lg k c;subst q;rw[h];refine⟨⟨by simp only[f',f',n],fun i f e=>?_⟩,⟨.ref a,g,rfl,⟨a,_,rfl,b,qd _⟩,p⟩⟩
    cases i with
    | zero =>
     cases (Option.some.inj e);exact⟨fun z=>l (by rw[z];rfl),a,rfl,aV.mono s b⟩
    | succ i=>exact o i f e
  | _=>exact nO e
theorem Mt{fs:List (List eA)}{q:Array Nat}(P:cK q fs.length)(U:dW (mX fs) q fs.length):(q.toList.map fun i=>fs.getD i [])=wg fs:=by
 have pm:(q.toList.map fun i=>fs.getD i []).Perm fs:=by
  have:=P.pm.map (fun i=>fs.getD i [])
  rw[vB] at this;exact this
 refine nX (fun a b f d=>wz (nP.mp d) (nP.mp f)) (pm.trans (hA fs ly).symm) ?_ ?_
 ·rw[oy];intro i j hi p l;have m:j<fs.length:=by rw[<-P.size];simpa using p
  have u:=U i j l m;have g:∀k (n:k<q.toList.length),q.toList[k]=q.getD k 0:=fun k n=>by
   rw[nL,ma (by simpa using n)]
   simp
  simp only[z7,g,g];exact nP.mpr fun z=>P2 _ (U1 (of_decide_eq_true u) z)
 ·refine ua (fun a b c f d=>?_) (fun a b=>?_) fs
  ·rw[nP] at *;exact fun z=>by
    by_cases h:codes b<codes a
    ·exact f h
    ·by_cases h':codes c<codes b
     ·exact d h'
     ·by_cases o:codes a<codes b
      ·exact d (U1 z o)
      ·rw[wz o h] at z;exact d z
  ·by_cases h:codes b<codes a
   ·rw[show ly b a=true from nP.mpr fun z=>P2 _ (U1 h z),Yl]
   ·rw[show ly a b=true from nP.mpr h]
    rfl
theorem Jt:CD X (D0 X.K) tf:=by
 intro H0 ps Z σ H Hi vs ds o Q a S r k;delta tf at a;split at a
 ·obtain⟨fs,h,a⟩:=oA a;split at a
  ·rename_i d;obtain rfl:=sO a;obtain⟨v,vr,rfl,⟨p,f,rfl,j,rs⟩,m⟩:=r;subst m;obtain⟨tx,rt⟩:=DK S.sub h rs;have c:=tx.1;refine⟨p,f,fs,rfl,Rd.mono S.sub j,tx,d.1,by rw[c];exact d.2,fun out ⟨q,P,U,n⟩ l hl=>?_⟩
   rw[c] at P U;have s:=Mt P U;subst n;have g:=ax.pick rt q.toList (fun i b=>by rw[c];exact qu P i b)
   have em:(q.toList.map fun i=>(fs.map tupS).getD i .aB)=(wg fs).map tupS:=by
    rw[<-s,fk];refine pA fun i b=>?_
    have b:=qu P i b;show _=tupS (fs.getD i []);rw[dD (by rw[a7];exact b),dD b,z7]
   rw[em] at g;exact k (.ref l) _ Hi (S.made hl) (ag.refl _) ⟨l,rfl,⟨_,aU,g,S.dj hl⟩,(S.bI hl).2,(S.bI hl).1,S.dP hl⟩
  ·exact nO a
 ·exact nO a
theorem Ds{fa:AF}{p:u3}(a:X.ex=[])(b:Gl X "sorted")(hm:X.mg "sorted"=none)(c:bp X e [])(d:DA X [e] fa):DE X (.Call (.Name "sorted" p) [e] [] pos) (bY tf fa) :=
 jK (K4 a) Jt b hm (by decide +kernel) d (by decide) rfl c rfl
noncomputable def ug:Dat->Dat->Option Res
 | .str x,.int n=>if 0<n/\n<=20/\x.length<=20 then some (.dat (.str (Yp x n))) else none
 | _,_=>none
theorem GQ:aI X (L1 .Mult) (fun x y H Q=>∃t n,x=.str t/\y=.int n/\MulOk t n/\Q (.str (Yp t n)) H):=by
 intro pins s σ H x y v u Q I a b h;obtain⟨t,n,rfl,rfl,ok,q⟩:=h;obtain⟨tk,rfl⟩:=a;obtain⟨tk',rfl⟩:=b;exact SB.mul ok fun t' k=>⟨.str (Yp t n),H,I.tok _,⟨_,rfl⟩,q⟩
theorem MC:eF X (fun x y H Q=>∃t n,x=.str t/\y=.int n/\MulOk t n/\Q (.str (Yp t n)) H) ug:=by
 intro H0 ps Z σ H Hi x y d d' o Q e S f g k;unfold ug at e;split at e
 ·split at e
  ·rename_i t n h;obtain rfl:=sO e;subst f;subst g;refine⟨_,_,rfl,rfl,⟨by simp;omega,fun _ _=>?_,fun _ _=>?_⟩,k _ H Hi S (ag.refl _) rfl⟩
   ·have:=Int.le_ediv_of_mul_le (a:=20) (b:=2 ^ 63-1) (c:=n) (by omega) (by omega)
    omega
   ·have i:n.toNat<=20:=by omega
    have:=Nat.mul_le_mul h.2.2 i;unfold abi;simp[dk];omega
  ·exact nO e
 ·exact nO e
theorem FH{a b:gi}{f g:DF}(c:DD X a f)(d:DD X b g):DE X (.BinOp a .Mult b pos) (cw ug f g):=kO GQ MC c d
noncomputable def ED(fn:gh)(fa:AF):SF:=fun Z=>(fa Z).bind fun p=>(fn p.1).bind fun r=>match r with
 | .ok (.dat _)=>some (.next p.2)
 | .ok (.own _)=>none
 | .exc C=>some (.exc C p.2)
theorem KG{g:eA}{e:gi}{l:List gi}{fn:gh}{fa:AF}{p m:u3}{k:Nat}(h:j8 X.prog X.w X.K X.mg X.base g k (iO X.K fn))(y:Gl X g)(B:Room k X.A)(n:X.ex=[])
 (hs:xn (.Call (.Name g p) (e::l) [] pos) none m.line X.env=pure false)(J:bb g)(U:bp X e l)
 (L:(KX pos (lq l X.env)).any (·.1)=false)(V:DA X (e::l) fa):bU X (.Expr (.Call (.Name g p) (e::l) [] pos) m) (ED fn fa):=by
 obtain⟨y,n,k,f,fd,pn,F,B,hm,W,Y⟩:=h.has y B n;obtain⟨t,pa,q⟩:=V;refine⟨_,sv (xk F B y hm W Y n pa J U L) hs,fun M N Z u H Hi o D i S O=>?_⟩
 unfold ED at i;obtain⟨ds,Z1,e1,i⟩:=oB i;obtain⟨r2,Q,i⟩:=oA i;refine q M N Z u H Hi ds _ _ e1 S fun vs H1 Hi1 x R T=>?_
 cases r2 with
 | ok r =>
  cases r with
  | dat d =>
   obtain rfl:=sO i;refine⟨fun _ _ _=>False,⟨Hi1,ds,_,x.sub,T,Q,fun v j b a1 s E G rc=>?_⟩,fun _ _ _ z=>z.elim⟩
   obtain⟨I,rr⟩:=x.after a1 s E G rc;exact O u j b I (R.trans s)
  | own c=>exact nO i
 | exc C =>
  obtain rfl:=sO i;refine⟨fun cls oa j=>cls=.ref C/\∃b,SR X.K M N Z1 u j b/\ag Hi b,⟨Hi1,ds,_,x.sub,T,Q,fun a j b a1 s E G=>⟨rfl,b,?_,R.trans s⟩⟩,fun cls a j ⟨z,b,I,s2⟩=>?_⟩
  ·exact (x.after (v:=.aB) (r:=.dat .aB) a1 s E G rfl).1
  ·subst z;exact (O u j b I s2).2 a
theorem Qu{a:List Uz}:fG X a (fun _=>none):=⟨fun _ _ _=>False,fun _ _ _ _ _ _ h=>za h,fun _ _ _ _ _ _ _ _ e=>by cases e⟩
theorem AS:∀{a:List dR}{us:List bR},aD (a.map V.ref) us->us=a.map uy
 | [],us,h=>by cases h;rfl
 | C::a,us,h=>by
  cases h with
  | cons r h =>
   rw[AS h];obtain rfl:=r;rfl
theorem Ie:bK X (.builtin "isinstance") (fun xs H Q=>∃(C a p:dR) (c:List dR) (b:Bool),xs=[.ref a,.ref p]/\H p=some (.tup (c.map V.ref))/\H a=some (excAt a (.ref C))/\jP X.K C/\Zj X.K (.ref C) (c.map uy)=some b/\Q (.bl b) H):=by
 intro pins s σ H xs us Q I r h;obtain⟨C,a,p,c,b,rfl,d,f,k,e,q⟩:=h;obtain⟨xv,cv,rfl,g,i⟩:=r.two;subst g;subst i;obtain⟨j,_,_⟩:=(show cm X.prog X.w H s.heap a (excAt a (.ref C)) from I.ai a _ f)
 obtain⟨_,its,l,o,m,t,n,u⟩:=(show cm X.prog X.w H s.heap p (.tup _) from I.ai p _ d)
 obtain rfl:=AS l;obtain⟨c0,d0,da,sl⟩:=o;subst t;subst u;exact W.kia_tup (zZ k Xl.ga) I.dZ j m e (fun z=>nomatch z) fun tk=>⟨.bl _,H,I.tok _,rfl,q⟩
theorem Q1{x:eA}{fn:bc}{p:u3}{k:Nat}(h:bj X.prog X.w X.K X.mg X.base x k (aY X.K fn))(b:Gl X x)(c:Room k X.A)(d:bb x):DE X (.Call (.Name x p) [] [] pos) (bY fn fO):=by
 obtain⟨b,CX,k,f,fd,pn,F,c,hm,j,l,m⟩:=h.has b c;refine⟨_,LF F c b hm j l .nil m d,fun H0 ps Z σ H Hi r Z' Q a S k=>?_⟩
 unfold bY at a;obtain⟨ds,Z1,n,a⟩:=oB a;obtain⟨rfl,rfl⟩:=sP n;obtain⟨r2,o,a⟩:=oM a;obtain⟨rfl,rfl⟩:=sP a;refine⟨Hi,[],_,S.sub,rfl,o,fun v q g a1 i s t u=>?_⟩
 obtain⟨y,z⟩:=S.after a1 i s t u;exact k v q g y i z
noncomputable def pT(fn:gh):bc:=fun ds=>match fn ds with
 | some (.ok r)=>some r
 | _=>none
theorem PX{x:eA}{k:Nat}{fn:gh}(q:j8 P w K mg base x k (iO K fn)):bj P w K mg base x k (aY K (pT fn)):=by
 obtain⟨f,c,pn,F,m,kp,b⟩:=q.is;have key:∀vs H Q E,aY K (pT fn) vs H Q E->iO K fn vs H Q fun _ _ _=>False:=by
  rintro vs H Q E ⟨Hi,ds,r,sm,d,e,g⟩;unfold pT at e;split at e
  ·rename_i i;cases e;exact⟨Hi,ds,.ok r,sm,d,i,g⟩
  ·cases e
 refine⟨f,c,pn,⟨fun vs H Q E h=>F.len vs H Q _ (key vs H Q E h),fun A outer s H args us vs Q E j l n o hs=>?_⟩,m,kp,b⟩
 refine Vo (F.run A outer s H args us vs Q _ j l n o (key vs H Q E hs)) fun r s' h=>?_
 cases r with
 | ok v=>cases v<;>exact h
 | error e =>
  obtain⟨a,cls,H',_,_,_,_,_,_,z⟩:=h;exact z.elim
open Classical in
end
section
namespace Mq
open Lean
def wk(k:String):MacroM (TSyntax `tactic):=`(tactic|walk_at $(Syntax.mkStrLit k):str)
def tc(c:Char):MacroM (TSyntax `tactic):=match c with
|'='=>`(tactic|with_reducible assumption)
|'r'=>`(tactic|rfl)
|'a'=>`(tactic|assumption)
|'d'=>`(tactic|decide)
|'e'=>`(tactic|exact rfl)
|'f'=>`(tactic|exact fun _=>rfl)
|'g'=>`(tactic|exact fun _ _=>rfl)
|'h'=>`(tactic|exact kM (by assumption))
|'i'=>`(tactic|exact tE (by assumption))
|'j'=>`(tactic|exact tK (by assumption))
|'n'=>`(tactic|exact pR (by rfl))
|'p'=>`(tactic|(intro _ _ _ _ _;walk_at "G"))
|'t'=>`(tactic|(intro _ _ _ _ _;walk_at "J"))
|'u'=>`(tactic|(intro _ _ _ _ _;walk_at "D"))
|'w'=>`(tactic|exact YF)
|'x'=>`(tactic|(simp[gQ, *];done))
|'s'=>`(tactic|(simp[xZ,gQ, *];done))
|'q'=>`(tactic|(first | rfl | assumption | (simp[*];done)))
|'2'=>`(tactic|first | assumption | rfl | decide +kernel)
|'3'=>`(tactic|(first | assumption | (simp[dk];done)))
|'4'=>`(tactic|(simp[dk];done))
|'5'=>`(tactic|exact Room.hd (by assumption))
|'6'=>`(tactic|exact Bu)
|'7'=>`(tactic|exact EA)
|c=>wk c.toString
def ru(s:String):MacroM (TSyntax `tactic):=do
 if s.front=='>' then return (← wk (s.drop 1).toString)
 if s.front=='.' then return (← tc s.back)
 let b:=s.front=='!'
 let p:=(if b then (s.drop 1).toString else s).splitOn " "
 let f:=mkIdent p.head!.toName
 let mut h:=#[]
 let mut t:=#[]
 for c in (p.getD 1 "").toList do
  if c=='_' then h:=h.push (← `(?_))
  else
   let n:=mkIdent (← Macro.addMacroScope (.mkSimple s!"x{h.size}"))
   h:=h.push (← `(?$n:ident))
   t:=t.push (← `(tactic|case $n:ident=>$(← tc c):tactic))
 let r← if b then `(tactic|with_reducible refine' $f $h*) else `(tactic|refine' $f $h*)
 t.foldlM (fun r x=>`(tactic|($r:tactic;$x:tactic))) r
def ra(s:String):MacroM (TSyntax `tactic):=do
 match s.splitOn "&" with
 |f::l=>
  let l←l.mapM ru
  match l.reverse with
  |[]=>ru s
  |x::l=>l.foldlM (fun y x=>`(tactic|(refine' $(mkIdent f.toName) ?m ?n;(case m=>$x:tactic);(case n=>$y:tactic)))) x
 |[]=>ru s
def fs(s:String):MacroM Syntax:=do
 let l←(s.splitOn "|").mapM ra
 return (← l.reverse.foldlM (fun y x=>`(tactic|first|$x:tactic|$y:tactic)) (← `(tactic|fail)))
end Mq
local macro_rules | `(tactic| walk_at "r0")=>`(tactic| exact Xr rfl)
local macro_rules | `(tactic| walk_at "r1")=>`(tactic| exact Xq (Xr rfl))
local macro_rules | `(tactic| walk_at "r2")=>`(tactic| exact Xq (Xq rfl))
local macro_rules | `(tactic| walk_at "V")=>Mq.fs ">r0|>r1|>r2"
local macro_rules | `(tactic| walk_at "r3")=>`(tactic| exact Xq rfl)
local macro_rules | `(tactic| walk_at "L")=>Mq.fs ">r0|>r3"
local macro_rules | `(tactic| walk_at "F")=>Mq.fs ">r0|>r3"
local macro_rules | `(tactic| walk_at "r4")=>`(tactic| exact wO (by rfl))
local macro_rules | `(tactic| walk_at "N")=>Mq.fs ".a|>r4"
local macro_rules | `(tactic| walk_at "r5")=>`(tactic| exact Room.mono (by assumption) (by decide))
local macro_rules | `(tactic| walk_at "R")=>Mq.fs ".a|>r5"
local macro_rules | `(tactic| walk_at "A")=>Mq.fs "IJ|LJ rDA"
local macro_rules | `(tactic| walk_at "B")=>Mq.fs "O9 rVrddA"
local macro_rules | `(tactic| walk_at "O")=>Mq.fs "Hn|OR D"
local macro_rules | `(tactic| walk_at "G")=>Mq.fs "Ig NrLF|Pw rrrH"
local macro_rules | `(tactic| walk_at "H")=>Mq.fs "FQ|ER rGH"
local macro_rules | `(tactic| walk_at "I")=>Mq.fs "Fh rarA|cX.alt&QF D&Mw D"
local macro_rules | `(tactic| walk_at "J")=>Mq.fs "HQ|KH T"
local macro_rules | `(tactic| walk_at "1")=>Mq.fs "IU|EA|EJ|Bu|Jq rVdd|KN ard|P8 rVhddgD|K5 hgDD|Ro A|MU D|MG DD|GV DD|Mn D|Gs rDDD|FD rVradd|QD rararD|KR rararD|JQ rararD|QK rrrrD"
local macro_rules | `(tactic| walk_at "D")=>Mq.fs ">1|DE.dd 0"
local macro_rules | `(tactic| walk_at "0")=>Mq.fs "Pm DD|Ki DD|DE.alt&Jd DD&EI DD|Lr DD|IQ DD|PU DD|GY iDD|Ju iDD|FL jrDD|Il A|Jl DOO|CI aarrrrnrfIptu|BY arrnrfIptu|PZ arRdrrA|OI arRdrrB|OG rarA|MX rrarA|NG rrarrA|P1 rrarrA"
local macro_rules | `(tactic| walk_at "E")=>Mq.fs ">0|DD.de 1"
local macro_rules | `(tactic| walk_at "W")=>Mq.fs "L' T|Gx T|NP TW|Qt TW"
local macro_rules | `(tactic| walk_at "T")=>Mq.fs "Nd iDD|Kt iDD|Nj DD|HU DD|Gk jrDD|Kl jrDD|Jo rDDD|EU T|DW.dt W|Lw fD"
local macro_rules | `(tactic| walk_at "M")=>Mq.fs "Rm rVdd|>E"
local macro_rules | `(tactic| walk_at "Z")=>Mq.fs "Hj M|vP NrLFrE|Jk arrLFrrnrfIptu|bU.alt&MO rVddfrrrDD&MY rVhddrDD|EN rrrDG|Mp rVddrrrrrA|Mh wrfIGS|v7 TSS"
local macro_rules | `(tactic| walk_at "S")=>Mq.fs "BH|vY ZS"
local macro_rules | `(tactic| walk_at "P")=>Mq.fs ".a|.r"
local macro_rules | `(tactic| walk_at "c")=>Mq.fs "lb|ju P|zH x|iZ s"
local macro_rules | `(tactic| walk_at "r6")=>`(tactic| (simp[lR,kA,yY,wK,jr,nj, *];done))
local macro_rules | `(tactic| walk_at "r7")=>`(tactic| (simp[lR,kA,yY,wK,jr];omega))
local macro_rules | `(tactic| walk_at "r8")=>`(tactic| decide +kernel)
local macro_rules | `(tactic| walk_at "y")=>Mq.fs ".r|.a|>r6|>r7|>r8"
local macro_rules | `(tactic| walk_at "o")=>Mq.fs ".=|qQ q|A2|x6 22|v_eq cc|qm cc|DY 3|qZ 3|.e"
local macro_rules | `(tactic| walk_at "z")=>Mq.fs ".=|.e"
local macro_rules | `(tactic| walk_at "k")=>Mq.fs "xW yv|rf yv"
local macro_rules | `(tactic| walk_at "Q")=>Mq.fs "!J8 ee|!Rw|!rR v"
local macro_rules | `(tactic| walk_at "m")=>Mq.fs "!M4|!Rq|.e"
local macro_rules | `(tactic| walk_at "v")=>Mq.fs ".=|!ak|!ae vv|!rC vQ|!uj vk|!wJ v|!pf vz|!C5 vz|!tQ v|!v_and vk|!su vv|!v_or vk|!D6 vv|!ff v|!dM vz|!cb v|!tO vv|!yq vv|!v_res v|!ah vm|!au vvo|!kC vz|!aZ vz|!cR eveze|!bL v3|!fx v3|!n8 vvz|!bA evez|!eG ez|!Hx v|!Dv vvovo|!tR veveze|!gU v|!xS ev|!Ae v4|.e"
local macro_rules | `(tactic| walk_at "Y")=>Mq.fs "Qy a5rAdrr|bU.calm Z|v7 TXX"
local macro_rules | `(tactic| walk_at "X")=>Mq.fs "BH|vY YX"
local macro_rules | `(tactic| walk_at "r9")=>`(tactic| repeat (first|(with_reducible refine' aj ?_)|(with_reducible refine' aq ?_)|(with_reducible refine' fL ?_)|(with_reducible refine' DZ ?_)|((with_reducible refine' aH ?p ?q ?_);(case p=>walk_at "v");(case q=>exact rfl))|((with_reducible refine' Ek ?p ?q ?_);(case p=>walk_at "v");(case q=>exact rfl))|((with_reducible refine' mY ?p ?_);(case p=>walk_at "v"))|((with_reducible refine' cg ?p ?_);(case p=>walk_at "v"))|((with_reducible refine' rb ?p ?q ?_);(case p=>walk_at "v");(case q=>simp[dk];done))|(with_reducible refine' bC ?_)|fail))
local macro_rules | `(tactic| walk_at "w")=>`(tactic| repeat (first|(with_reducible refine' aj ?_)|(with_reducible refine' aq ?_)|(with_reducible refine' fL ?_)|(with_reducible refine' DZ ?_)|((with_reducible refine' aH ?p ?q ?_);(case p=>walk_at "v");(case q=>exact rfl))|((with_reducible refine' Ek ?p ?q ?_);(case p=>walk_at "v");(case q=>exact rfl))|((with_reducible refine' mY ?p ?_);(case p=>walk_at "v"))|((with_reducible refine' cg ?p ?_);(case p=>walk_at "v"))|((with_reducible refine' rb ?p ?q ?_);(case p=>walk_at "v");(case q=>simp[dk];done))|(with_reducible refine' bC ?_)|fail))
local macro_rules | `(tactic| walk_at "r10")=>`(tactic| ((with_reducible refine' BI ?_);walk_at "wb"))
local macro_rules | `(tactic| walk_at "wb")=>`(tactic| first|((with_reducible refine' rT ?p ?_);(case p=>walk_at "v"))|((with_reducible refine' BI ?_);walk_at "wb")|fail)
local macro_rules | `(tactic| walk_at "r11")=>`(tactic| ((with_reducible refine' vU ?_);walk_at "wb"))
local macro_rules | `(tactic| walk_at "wif")=>`(tactic| ((with_reducible refine' vU ?_);walk_at "wb"))
local macro_rules | `(tactic| walk_at "1")=>Mq.fs "Rv aarD"
local macro_rules | `(tactic| walk_at "0")=>Mq.fs "Rt aaRrD"
section
variable{P:iN}{w:nE}{K:fj}{mg:eA->Option bR}{base:nS}
theorem intBits_le{i:Int}{n:Nat}(h:i.natAbs<2 ^ n):px i<=n:=by
 delta px;split
 ·lia
 ·rename_i z;have:=(aa' (by intro e;exact z (by simpa using e))).mpr h
  lia
theorem tP{i j:Int}(h:j.natAbs<2 ^ 64):fB i j=true:=by
 have:=intBits_le h;delta fB WM;rw[show decide (px j>64)=false from decide_eq_false (by lia)]
 simp
theorem wL{i j:Int}(h:i.natAbs<2 ^ 64):fB i j=true:=by
 have:=intBits_le h;delta fB WM;rw[show decide (px i>64)=false from decide_eq_false (by lia)]
 simp
end
structure aP (x:eA):Prop where
 r9:x.cps.all (·<128)=true
 len:x.length<=99
theorem BB{x:eA}(h:x.cps.all (·<128)=true):r6 x=true:=by
 delta r6;rw[WT] at h ⊢;intro c a;have:=h c a;lia
theorem aP.ok{x:eA}(h:aP x):r6 x=true:=BB h.r9
noncomputable def pD(p:Int×Int):Dat:=.lst [.int p.1,.int p.2]
theorem JB{m:Int}(h:m.natAbs<2 ^ 9000):m.natAbs.log2<9000:=by
 by_cases z:m.natAbs=0
 ·rw[z];decide
 ·exact (aa' z).mpr h
theorem mP(ds:List Dat)(i:Int):cu (.lst ds) (.int i)=eZ ds i:=rfl
noncomputable def gP(c:Nat):Bool:=decide (97<=c)&&decide (c<=122)
noncomputable def bS(x:eA):Bool:=decide (x="north")||decide (x="east")||decide (x="south")||decide (x="west")
def cF(x:eA):Bool:=decide (0<x.length)&&decide (x.length<9)&&x.cps.toList.all gP&&!bS x
theorem G8(c:Nat):((!decide (([c]:List Nat)<[97]))&&!decide (([122]:List Nat)<[c]))=gP c:=by
 delta gP;have a:decide (([c]:List Nat)<[97])=decide (c<97):=by
  apply n4.mpr;simp[HT]
 have b:decide (([122]:List Nat)<[c])=decide (122<c):=by
  apply n4.mpr;simp[HT]
 rw[a,b]
 by_cases d:97<=c<;>by_cases e:c<=122<;>simp[d,e]<;>omega
theorem B5{x:eA}(h:aP x):x.length<=sizeLine:=sq h.len (by unfold dk;decide)
theorem C2{x:eA}(b:r6 x=true){ys:List eA}(c:∀y∈ys,r6 y=true)(neg:Bool):fI neg (.str x) (.lst (ys.map .str))=some (.dat (.bl (if neg then !(ys.any fun y=>decide (y=x)) else ys.any fun y=>decide (y=x)))):=by
 have f:bH (.lst (ys.map .str))=true:=iZ (by
  show (ys.map Dat.str).all gQ=true;rw[ia];intro d hd;obtain⟨y,a,rfl⟩:=bg.mp hd;exact c y a)
 show (if (bH (.str x)&&bH (.lst (ys.map .str)))=true then some (Res.dat (.bl (if neg then !inD (.str x) (ys.map .str) else inD (.str x) (ys.map .str)))) else none)=_
 rw[ju b,f];have e:inD (.str x) (ys.map .str)=ys.any fun y=>decide (y=x):=by
  rw[nj,Wo];apply congrArg;funext y;exact kA y x
 rw[e];rfl
theorem HN{x:eA}(b:r6 x=true){ys:List eA}(c:∀y∈ys,r6 y=true)(neg:Bool):fI neg (.str x) (.tup (ys.map .str))=some (.dat (.bl (if neg then !(ys.any fun y=>decide (y=x)) else ys.any fun y=>decide (y=x)))):=by
 have f:bH (.tup (ys.map .str))=true:=iZ (by
  show (ys.map Dat.str).all gQ=true;rw[ia];intro d hd;obtain⟨y,a,rfl⟩:=bg.mp hd;exact c y a)
 show (if (bH (.str x)&&bH (.tup (ys.map .str)))=true then some (Res.dat (.bl (if neg then !inD (.str x) (ys.map .str) else inD (.str x) (ys.map .str)))) else none)=_
 rw[ju b,f];have e:inD (.str x) (ys.map .str)=ys.any fun y=>decide (y=x):=by
  rw[nj,Wo];apply congrArg;funext y;exact kA y x
 rw[e];rfl
noncomputable def pI:List Str:=["north","east","south","west"]
theorem yQ:∀y∈pI,r6 y=true:=by decide +kernel
theorem wk(x:eA):(pI.any fun y=>decide (y=x))=bS x:=by
 delta pI bS;simp only[UH,List.any_nil,aad,eq_comm (a:=x),Bool.or_assoc]
theorem Mx{x:eA}(a:r6 x=true)(neg:Bool):fI neg (.str x) (.lst [.str "north",.str "east",.str "south",.str "west"])=some (.dat (.bl (if neg then !bS x else bS x))):=by
 have:=C2 a yQ neg;rw[wk] at this;exact this
theorem lA{x:eA}(a:r6 x=true)(neg:Bool):fI neg (.str x) (.tup [.str "north",.str "east",.str "south",.str "west"])=some (.dat (.bl (if neg then !bS x else bS x))):=by
 have:=HN a yQ neg;rw[wk] at this;exact this
section
variable{P:iN}{w:nE}{K:fj}{mg:eA->Option bR}{base:nS}
def Aj(fn:bc):Prop:=∀x,aP x->fn [.str x]=some (.dat (.bl (cF x)))
theorem fE{c:BF}{e:EF}{s' g:SF}{Z Z1 Z2:DS}{b:Bool}{r:Res}{Q:Out->Prop}(h:c Z=some (b,Z1))(a:b=true)(d:e Z1=some (r,Z2))(q:Q (.ret r Z2)):WS (i8 (j3 c (i8 (mB e) qD) s') g) Z Q :=
 aj (gy h (fun _=>aj (cg d q)) fun z=>by rw[a] at z;cases z)
def Ax(fn:bc):Prop:=∀d,kj d "str"=some false->fn [d]=some (.dat (.bl false))
theorem OO(T:Txt mg)(o:fY K mg "WALLS" (.tup [.str "north",.str "east",.str "south",.str "west"]))(p:fY K mg "LONGEST_NAME" (.int 8)){f:dR}{j:hQ}(F:bf K "is_name" "is_name" xN f j):∃fn,aO P w K mg base bh 1 f j ["thing"] (aY K fn)/\(Aj fn/\Ax fn):=by
 refine' df F zf (n:=1) rfl ?C ?B
 case C =>
  intro cdv A outer s H E hr;have nd:=zf.nd;cases T
  walk_at "S"
 case B =>
  clear T F o p;refine⟨?D,?G⟩
  case G =>
   intro d k;refine' dS rfl ?w
   case w =>
    show WS _ [.dat d] _;exact fE (v_or (ff (dM (kC rfl k) rfl)) rfl) rfl rfl ⟨_,rfl⟩
  case D =>
   intro x tx;have iw:=lA tx.ok false;have k:kj (.str x) "str"=some true:=rfl;have hl:cD (.str x)=some x.length:=if_pos (B5 tx);refine' dS rfl ?w
   case w =>
    show WS _ [.dat (.str x)] _
    walk_at "w"
    walk_at "wif"
    refine⟨fun hw=>?_,fun hw=>?_⟩
    ·have hw:bS x=true:=hw
     walk_at "w"
     refine fy ?_;unfold cF;rw[hw];simp
    ·have hw:bS x=false:=hw
     walk_at "w"
     walk_at "wif"
     refine⟨fun b=>?_,fun b=>?_⟩
     ·walk_at "w"
      refine fy ?_;unfold cF;simp at b;simp;intro l m;omega
     ·walk_at "w"
      refine' LN (Rb (Hb (Q5 (Nq (Od (fun x=>[.no,.dat x]) (fun _=>true) (fun d=>match d with|.str y=>.bl (y.cps.toList.all gP)|_=>.aB) (QE ?i tx.r9) rfl ?z ?g ?c ?e ?n) (PD ?q)))))
      case i=>walk_at "v"
      case z=>rw[a7,nr];exact B5 tx
      case g =>
       intro y a Z hd
       rcases hd with rfl|⟨z,rfl⟩<;>rfl
      case c=>intro y a;rfl
      case e =>
       intro y a _;obtain⟨c,r,rfl⟩:=bg.mp a;show jV ig ig (fC (.str "a")) (cC 1) (fC (.str "z")) [.no,.dat (.str ⟨#[c]⟩)]=some (.bl (([c]:List Nat).all gP),[.no,.dat (.str ⟨#[c]⟩)]);have t:ig (.str "a") (.str ⟨#[c]⟩)=some (.dat (.bl (!decide (([c]:List Nat)<[97])))):=rfl;have u:ig (.str ⟨#[c]⟩) (.str "z")=some (.dat (.bl (!decide (([122]:List Nat)<[c])))):=rfl;have:=Dv (o1:=ig) (o2:=ig) (f:=fC (.str "a")) (g:=cC 1) (h:=fC (.str "z")) (Z:=[.no,.dat (.str ⟨#[c]⟩)]) rfl rfl t rfl u;rw[this,G8];simp
      case n=>intro y a;rfl
      case q =>
       have e:((x.cps.toList.map fun c=>Dat.str ⟨#[c]⟩).filter fun _=>true).map (fun d=>match d with|.str y=>Dat.bl (y.cps.toList.all gP)|_=>Dat.aB)=x.cps.toList.map fun c=>Dat.bl (gP c):=by
        rw[YY.mpr (by intros;rfl),fk]
        apply pA;intro c r;simp
       refine⟨.dat (.bl (cF x)),?_,_,rfl⟩;show mo [.lst _]=_;rw[e];show (jk _).map _=_;rw[tH];simp at b;have l:decide (0<x.length)=true:=by simp;omega
       have m:decide (x.length<9)=true:=by simp;omega
       simp[cF,hw,l,m,Wp,Function.comp]
end
abbrev Fl:=GD eA
def aF(x:eA×Ob):Dat:=.tup [.str x.1,.int x.2.l,.int x.2.b,.int x.2.r,.int x.2.t]
def aK(rs:Fl):Dat:=.lst (rs.map aF)
section
variable{P:iN}{w:nE}{K:fj}{mg:eA->Option bR}{base:nS}
theorem M1{i:Int}(h:0<=i)(h':i<26):cu (.str "abcdefghijklmnopqrstuvwxyz") (.int i)=some (.str ⟨#[97+i.toNat]⟩):=by
 have key:∀j:Fin 26,(hO "abcdefghijklmnopqrstuvwxyz").cps.toList[j.val]?=some (97+j.val):=by decide +kernel
 have e:=key ⟨i.toNat,by lia⟩
 have a:=lE e;rw[Rr h] at a;show (if (hO "abcdefghijklmnopqrstuvwxyz").length<=dk then (eZ (hO "abcdefghijklmnopqrstuvwxyz").cps.toList i).map (fun c=>Dat.str ⟨#[c]⟩) else none)=_
 rw[if_pos (by rw[show (hO "abcdefghijklmnopqrstuvwxyz").length=26 from by decide +kernel];unfold dk;decide),a]
 rfl
theorem vW{n:Int}{k:Nat}{x:Dat}(h:(dn 0 n)[k]?=some x):(k:Int)<n/\x=.int k:=by
 have a:=(bt.mp h).1;unfold dn at a h;rw[eo] at h;simp only[a7,nT] at a;rw[VE a] at h;simp at h;exact⟨by lia,h.symm⟩
theorem mH{i:Nat}{Z:DS}{xs:List Dat}{d:Dat}{fa:AF}(h:(Z[i]?).bind ownOf=some (false,.lst xs))(a:fa Z=some ([d],Z))(hl:xs.length<dk):jQ i nV fa Z=some (.aB,Z.set i (.own (.lst (xs++[d])))):=by
 delta jQ;rw[h];rw[a];show ((Z[i]?).bind ownOf).bind _=_;rw[h];show (if xs.length<dk then some (Dat.aB,Dat.lst (xs++[d])) else none).map _=_
 rw[if_pos hl];rfl
theorem join_one:∀cs:List Nat,(YT (hO "") (cs.map fun c=>(⟨#[c]⟩:eA))).cps.toList=cs
 | []=>rfl
 | [c]=>rfl
 | c::d::r=>by
  have e:(hO "").cps=#[]:=by decide +kernel
  show ((⟨#[c]⟩:eA)++hO "" ++ YT (hO "") ((d::r).map fun c=>(⟨#[c]⟩:eA))).cps.toList=_
  simp only[Vh,e,U0,join_one (d::r)];simp
theorem OM(cs:List Nat):(Wf (hO "") (cs.map fun c=>(⟨#[c]⟩:eA))).cps.toList=cs:=by
 delta Wf;rw[StrLaws.glued_eq_join];exact join_one cs
theorem A4{a:Type}(f:a->eA):∀cs:List a,dv (cs.map fun c=>.str (f c))=some (cs.map f)
 | []=>rfl
 | c::cs=>by
  simp only[hY,dv,A4 f cs];rfl
structure qM (c:Nat) (x:eA):Prop where
 fst:x.cps.toList[0]?=some c
 r9:∀a∈x.cps.toList,gP a=true
 len:x.cps.toList.length<=8
theorem JP{i:Int}(h:0<=i)(h':i<26):gP (97+i.toNat)=true:=by
 delta gP;simp
 lia
theorem qM.nm{c:Nat}{x:eA}(h:qM c x)(hw:bS x=false):cF x=true:=by
 have b:=h.len;have a:=(bt.mp h.fst).1;have b:x.length<=8:=b;have a:0<x.length:=a;delta cF;simp only[hw,decide_eq_true a,decide_eq_true (by lia:x.length<9),ia.mpr h.r9]
 rfl
theorem Kg(x:eA):bS (x++hO "x")=false:=by
 cases e:bS (x++hO "x") with
 | false=>rfl
 | true =>
  have key:∀y∈pI,y.cps.toList.getLast?≠some 120:=by decide +kernel
  have:(pI.any fun y=>decide (y=x++hO "x"))=true:=by rw[wk];exact e
  obtain⟨y,a,e⟩:=sj.mp this;have e:y=x++hO "x":=by simpa using e
  refine absurd ?_ (key y a);simp only[e,Vh,U0,show (hO "x").cps.toList=[120] from by decide +kernel]
  simp
end
local macro_rules | `(tactic| walk_at "0")=>Mq.fs "Hh rrarA|HR rrarA|DE.alt&Rz rrrarA&Bw rrarA|FG D6"
local macro_rules | `(tactic| walk_at "1")=>Mq.fs "MS rrararrD|Gz jrrrrDA|Rj arVhddgD"
section
variable{P:iN}{w:nE}{K:fj}{mg:eA->Option bR}{base:nS}
theorem NV{f:DF}{Z Z1:DS}{ds:List Dat}(h:f Z=some (.tup ds,Z1)):alt (jg f) (jN f) Z=some (ds,Z1):=by
 refine gU ?_;delta jg;rw[h];rfl
def mR(x y:Ob):Int:=nM x.r y.r-imax x.l y.l
def kU(x y:Ob):Int:=nM x.t y.t-imax x.b y.b
theorem LI{a:List Int}(h:a≠[]):gR a∈a:=by
 have h0:=pB.mpr h;obtain⟨h1,_⟩:=argBest_gt (fun i=>(a[i]?).getD 0) (a.length-1)
 delta gR;rw[cA (by omega)]
 exact UU _
theorem vi{b:List Int}{a:Int}(h:a∈b):a<=gR b:=by
 obtain⟨h1,c⟩:=argBest_gt (fun i=>(b[i]?).getD 0) (b.length-1)
 obtain⟨j,d,e⟩:=qt h;have:=c j (by lia)
 simp only[cA d,e] at this;exact this
theorem ne_int(i j:Int):eX true (.int i) (.int j)=some (.dat (.bl (!decide (i=j)))):=by rw[qm lb lb,lR]
theorem eq_int(i j:Int):eX false (.int i) (.int j)=some (.dat (.bl (decide (i=j)))):=by rw[v_eq lb lb,lR]
theorem tX{a:Type}(xs:List a)(k:Nat):cutD xs (some (k:Int)) none=xs.drop k:=by
 delta cutD;rw[zQ,zT]
 by_cases h:k<=xs.length
 ·rw[Nat.min_eq_left h,Wm (by rw[se];lia)]
 ·rw[Nat.min_eq_right (by omega),Wn (eB _),Wn (by omega),X8]
theorem pV{a:Type}(xs:List a)(k:Nat):cutD xs none (some (k:Int))=xs.take k:=by
 delta cutD;simp only[zQ,zT,List.drop_zero,List.take_eq_take_iff]
 lia
theorem tI{f g:DF}{Z Z1 Z2:DS}{d:Dat}{i:Int}{r:Res}(h:f Z=some (d,Z1))(a:g Z1=some (.int i,Z2))(b:gC d (some i) none=some r):j7 f (kX g) nZ Z=some (r,Z2):=by
 delta j7;rw[h];simp;delta kX;rw[a];show (gC d (some i) none).map _=_;rw[b];rfl
theorem nB{f g:DF}{Z Z1 Z2:DS}{d:Dat}{i:Int}{r:Res}(h:f Z=some (d,Z1))(a:g Z1=some (.int i,Z2))(b:gC d none (some i)=some r):j7 f nZ (kX g) Z=some (r,Z2):=by
 delta j7;rw[h];delta nZ kX;dsimp only[hH];rw[a];show (gC d none (some i)).map _=_;rw[b];rfl
structure Fg (rs:Fl):Prop where
 tx:∀x∈rs,aP x.1
 nu:∀x∈rs,(-(2 ^ 95)<x.2.l/\x.2.l<2 ^ 95)/\(-(2 ^ 95)<x.2.b/\x.2.b<2 ^ 95)/\(-(2 ^ 95)<x.2.r/\x.2.r<2 ^ 95)/\(-(2 ^ 95)<x.2.t/\x.2.t<2 ^ 95)
 bT:rs.length<=50
def cQ(rs:Fl):Int:=gR (rs.map fun x=>x.2.r)
def cN(rs:Fl):Int:=gR (rs.map fun x=>x.2.t)
def u7(rs:Fl):Int:=(rs.map fun x=>x.2.eY).sum
noncomputable def ay(k:Nat):Str:=if k=0 then "north" else if k=1 then "east" else if k=2 then "south" else "west"
def mv(x y:Ob):Option Nat:=if 0<mR x y/\kU x y=0 then (if y.b=x.t then some 0 else some 2) else if mR x y=0/\0<kU x y then (if y.l=x.r then some 1 else some 3) else none
def cP(k:Nat)(y:Ob):Int:=if k=0 then y.l else if k=1 then -y.b else if k=2 then -y.l else y.b
def mr(a:List eA):List Str:=match a.findIdx? (fun x=>decide (x=J6 a)) with
 | some i=>a.drop i++a.take i
 | none=>a
theorem Pt{a:List eA}(b:∀x∈a,aP x){m:eA}(hm:aP m):qH (.str m) (a.map .str)=a.findIdx? (fun x=>decide (x=m)):=by
 delta qH;induction a with
 | nil=>rfl
 | cons x a c =>
  show ((toPy (.str x))::cy (a.map .str)).findIdx? _=_;have ex:va (toPy (.str x)) (toPy (.str m))=decide (x=m):=kA x m;simp only[Y7,ex,c fun y d=>b y (fm _ d)]
theorem rA{a:List eA}(b:∀x∈a,aP x):bH (.lst (a.map .str))=true:=iZ (by
 show (a.map Dat.str).all gQ=true;rw[ia];intro d hd;obtain⟨x,c,rfl⟩:=bg.mp hd;exact (b x c).ok)
theorem KY{f:DF}{fa:AF}{Z Z1 Z2:DS}{ds:List Dat}{d:Dat}{j:Nat}(h:f Z=some (.lst ds,Z1))(a:fa Z1=some ([d],Z2))(b:bH (.lst ds)=true)(c:bH d=true)(e:qH d ds=some j):qy f fa Z=some (.int (j:Int),Z2):=by
 delta qy;rw[h];dsimp only[hH];rw[a];show (if bH (.lst ds)&&bH d then _ else none)=_
 simp only[b,c,e];rfl
noncomputable def pairD(x:eA×List eA):Dat:=.tup [.str x.1,.lst (x.2.map .str)]
def j1(rs:Fl):Fl:=[("north",⟨0,cN rs,cQ rs,cN rs+1⟩),("east",⟨cQ rs,0,cQ rs+1,cN rs⟩),("south",⟨0,-1,cQ rs,0⟩),("west",⟨-1,0,0,cN rs⟩)]
def Fr(s:Slot):Prop:=s=.no\/∃d,s=.dat d
def iG(x:Ob)(rs:Fl)(k:Nat):List (Int×eA):=(rs.filter fun y=>decide (mv x y.2=some k)).map fun y=>(cP k y.2,y.1)
noncomputable def cY(l:List (Int×eA)):List (Int×eA):=l.mergeSort fun a b=>decide (a.1<=b.1)
noncomputable def eQ(p:Int×eA):Dat:=.tup [.int p.1,.str p.2]
theorem OZ(l:List (Int×eA)):firstsI (l.map eQ)=some (l.map (·.1)):=by
 induction l with
 | nil=>rfl
 | cons x l a =>
  rw[hY,firstsI,a];rfl
theorem HX{l:List (Int×eA)}(c:(l.map (·.1)).Nodup)(d:l.length<64):qq [.lst (l.map eQ)]=some (.own (.lst ((cY l).map eQ))):=by
 show (firstsI _).bind _=_;rw[OZ];show (if _/\_ then _ else none)=_
 rw[if_pos ⟨c,by rw[a7];exact d⟩]
 delta cY rP;rw[<-U4 (r:=fun a b:Int×eA=>decide (a.1<=b.1)) (fun a _ b _=>rfl)]
theorem x8(l:List (Int×eA)):(cY l).length=l.length:=(hA _ _).length_eq
def o7(rs:Fl):List (Int×Int):=cW (rs.map (·.2))
theorem kZ{i:Nat}{g:DF}{Z Z1:DS}{a:List (eA×Dat)}{k:eA}{d:Dat}(b:Z[i]?=some (.dat (.dC a)))(h:g Z=some (.str k,Z1))(h':dc a k=some d):sk i g Z=some (d,Z1):=by
 delta sk;rw[b];rw[h];show (dc a k).map _=_;rw[h'];rfl
def dU(a:Nat)(x y:Ob):Bool:=if a=1 then decide (x.l<y.r)&&decide (y.l<x.r) else decide (x.b<y.t)&&decide (y.b<x.t)
def cp(k:Nat)(x y:Ob):Bool:=if k=0 then decide (y.b=x.t)&&dU 1 x y else if k=1 then decide (y.l=x.r)&&dU 2 x y else if k=2 then decide (y.t=x.b)&&dU 1 x y else decide (y.r=x.l)&&dU 2 x y
def gn(rs:Fl)(x:Ob)(k:Nat):List (Int×eA):=(rs.filter fun y=>cp k x y.2).map fun y=>(cP k y.2,y.1)
def iT(rs:Fl)(x:Ob)(k:Nat):List Str:=if gn rs x k=[] then [ay k] else (cY (gn rs x k)).map (·.2)
def fS(rs:Fl)(x:Ob)(n:Nat):List Str:=(ka n).flatMap fun k=>iT rs x k
theorem tY(rs:Fl)(x:Ob)(n:Nat):fS rs x (n+1)=fS rs x n++iT rs x n:=by
 delta fS;simp only[Xu];simp
def rQ(rs:Fl)(x:Ob):Prop:=∀k,k<4->((gn rs x k).map (·.1)).Nodup
theorem Fd(l:Fl):firstsD (l.map aF)=some (l.map (·.1)):=by
 induction l with
 | nil=>rfl
 | cons x l a =>
  rw[hY,firstsD,a];rfl
def oX(rs:Fl):Fl:=rs.mergeSort fun a b=>dY (aF a) (aF b)
theorem Gy(rs:Fl)(f:eA×Ob->Dat)(h:∀a∈rs,∀b∈rs,dY (f a) (f b)=dY (aF a) (aF b)):oO (rs.map f)=(oX rs).map f:=by
 delta oO oX;rw[<-U4 (fun a c b d=>(h a c b d).symm)]
def qF(rs:Fl):Bool:=decide (∃p∈o7 rs,3<(o7 rs).count p)
end
theorem Cy:∀(l d:List Key),d.Nodup->((l.foldl gE d).length=d.length+l.length ↔ l.Nodup/\∀x∈l,x∉d)
 | [],d,_=>by simp
 | v::l,d,h=>by
  have le:∀(l d:List Key),(l.foldl gE d).length<=d.length+l.length:=by
   intro l;induction l with
   | nil=>intro d;simp
   | cons a l i =>
    intro d;simp;have:=i (gE d a);have e:=Dw d a;split at e<;>lia
  simp only[ZN,f']
  by_cases g:v∈d
  ·have e:gE d v=d:=if_pos (sj.mpr ⟨v,g,by simp⟩)
   constructor
   ·intro z;have:=le l d
    lia
   ·rintro⟨_,z⟩;exact absurd g (z v (fv ..))
  ·have e:gE d v=d++[v]:=if_neg (fun z=>by
    obtain⟨a,j,e⟩:=sj.mp z;cases of_decide_eq_true e;exact g j)
   have h':(d++[v]).Nodup:=by
    rw[iR];refine⟨h,by simp,?_⟩
    intro a j b k;cases eP.mp k;exact fun z=>g (z ▸ j)
   have i:=Cy l (d++[v]) h';simp only[eH,UL] at i;rw[e,show d.length+(l.length+1)=d.length+1+l.length from by lia,i,me]
   constructor
   ·rintro⟨a,b⟩;refine⟨⟨fun z=>b v z (by simp),a⟩,?_⟩
    intro x f
    rcases ey.mp f with rfl|f
    ·exact g
    ·exact fun z=>b x f (by simp[z])
   ·rintro⟨⟨a,b⟩,c⟩;refine⟨b,fun x f z=>?_⟩
    rcases et.mp z with z|z
    ·exact c x (fm _ f) z
    ·cases eP.mp z;exact a f
theorem vp(ys:List eA):jW ys=ys.length ↔ ys.Nodup:=by
 dsimp only[jW,dq];have e:(ka ys.length).map (fun i=>(rp ((ys[i]?).getD UJ):Key))=ys.map rp:=by
  apply ZA
  ·simp
  ·intro i h1 b;have:i<ys.length:=by simpa using b
   simp[this]
 rw[e];have:=Cy (ys.map rp) [] z8;simp only[a7,UE,z5] at this;rw[this];constructor
 ·rintro⟨a,_⟩;exact (gj.mp a).imp fun h z=>h (by rw[z])
 ·intro a;exact⟨gj.mpr (a.imp fun h z=>h (Sum.inr.inj z)),fun x _ z=>by cases z⟩
structure bD (rs:Fl):Prop where
 ne:rs≠[]
 bT:rs.length<=8
 nm:∀x∈rs,cF x.1=true
 row:∀x∈rs,0<=x.2.l/\x.2.l<x.2.r/\0<=x.2.b/\x.2.b<x.2.t
 nd:(rs.map (·.1)).Nodup
 ap:rs.Pairwise fun x y=>Apart x.2 y.2
 ar:u7 rs=cQ rs*cN rs
theorem vG{x y:Ob}(c:x.ok)(d:y.ok){k:Nat}(a:k<4):(mv x y=some k) ↔ cp k x y=true:=by
 delta Ob.ok at c d;have a1:0<mR x y ↔ x.l<y.r/\y.l<x.r:=by
  dsimp only[mR,nM,imax];split<;>split<;>omega
 have a2:0<kU x y ↔ x.b<y.t/\y.b<x.t:=by
  dsimp only[kU,nM,imax];split<;>split<;>omega
 have a3:mR x y=0 ↔ y.l=x.r\/y.r=x.l:=by
  dsimp only[mR,nM,imax];split<;>split<;>omega
 have a4:kU x y=0 ↔ y.b=x.t\/y.t=x.b:=by
  dsimp only[kU,nM,imax];split<;>split<;>omega
 have a:k=0\/k=1\/k=2\/k=3:=by lia
 delta mv
 rcases a with rfl|rfl|rfl|rfl
 ·rw[show cp 0 x y=(decide (y.b=x.t)&&(decide (x.l<y.r)&&decide (y.l<x.r))) from rfl]
  simp;constructor
  ·intro h;split at h
   ·split at h
    ·lia
    ·cases h
   ·split at h
    ·split at h<;>cases h
    ·cases h
  ·intro h;rw[if_pos (by lia),if_pos h.1]
 ·rw[show cp 1 x y=(decide (y.l=x.r)&&(decide (x.b<y.t)&&decide (y.b<x.t))) from rfl]
  simp;constructor
  ·intro h;split at h
   ·split at h<;>cases h
   ·split at h
    ·split at h
     ·lia
     ·cases h
    ·cases h
  ·intro h;rw[if_neg (by omega),if_pos (by lia),if_pos h.1]
 ·rw[show cp 2 x y=(decide (y.t=x.b)&&(decide (x.l<y.r)&&decide (y.l<x.r))) from rfl]
  simp;constructor
  ·intro h;split at h
   ·split at h
    ·cases h
    ·lia
   ·split at h
    ·split at h<;>cases h
    ·cases h
  ·intro h;rw[if_pos (by lia),if_neg (by omega)]
 ·rw[show cp 3 x y=(decide (y.r=x.l)&&(decide (x.b<y.t)&&decide (y.b<x.t))) from rfl]
  simp;constructor
  ·intro h;split at h
   ·split at h<;>cases h
   ·split at h
    ·split at h
     ·cases h
     ·lia
    ·cases h
  ·intro h;rw[if_neg (by omega),if_pos (by lia),if_neg (by omega)]
theorem bD.kr{rs:Fl}(F:bD rs){x:eA×Ob}(a:x∈rs):x.2.r<=cQ rs/\x.2.t<=cN rs:=⟨vi (bg.mpr ⟨x,a,rfl⟩),vi (bg.mpr ⟨x,a,rfl⟩)⟩
theorem bD.ok{rs:Fl}(F:bD rs){x:eA×Ob}(a:x∈rs):x.2.ok:=⟨(F.row x a).2.1,(F.row x a).2.2.2⟩
theorem bD.hit{rs:Fl}(F:bD rs){p q:Int}(d:0<=p)(h2:p<cQ rs)(f:0<=q)(h4:q<cN rs):∃y∈rs,y.2.l<=p/\p<y.2.r/\y.2.b<=q/\q<y.2.t:=by
 obtain⟨o,ho,e⟩:=filled (W:=(cQ rs).toNat) (H:=(cN rs).toNat) (fun o ho=>by
  obtain⟨x,c,rfl⟩:=bg.mp ho;have a:=F.row x c;have b:=F.kr c;exact⟨a.1,a.2.1,by omega,a.2.2.1,a.2.2.2,by omega⟩) (gj.mpr F.ap) (by
  rw[fk];have:=F.ar;unfold u7 at this;rw[show (Ob.eY ∘ fun x:eA×Ob=>x.2)=fun x=>x.2.eY from rfl,this,Rr (by lia),Rr (by lia)]) d (by lia) f (by lia)
 obtain⟨x,c,rfl⟩:=bg.mp ho;exact⟨x,c,e⟩
theorem jl{b:Type}{R:b->b->Prop}{l:List b}(h:l.Pairwise R){x y:b}(d:x∈l)(a:y∈l):x=y\/R x y\/R y x:=by
 induction h with
 | nil=>cases d
 | cons e _ f =>
  rcases ey.mp d with rfl|c
  ·rcases ey.mp a with rfl|a
   ·exact .inl rfl
   ·exact .inr (.inl (e y a))
  ·rcases ey.mp a with rfl|a
   ·exact .inr (.inr (e x c))
   ·exact f c a
def ic(rs:Fl)(x:Ob)(k:Nat):Prop:=if k=0 then x.t=cN rs else if k=1 then x.r=cQ rs else if k=2 then x.b=0 else x.l=0
instance (rs:Fl) (x:Ob) (k:Nat):Decidable (ic rs x k):=by unfold ic;infer_instance
theorem bD.inner{rs:Fl}(F:bD rs){x:eA×Ob}(f:x∈rs){k:Nat}(g:k<4)(h:¬ic rs x.2 k):gn rs x.2 k≠[]:=by
 have a:=F.row x f;have b:=F.kr f;have key:∃y∈rs,cp k x.2 y.2=true:=by
  have g:k=0\/k=1\/k=2\/k=3:=by lia
  rcases g with rfl|rfl|rfl|rfl
  ·have h:¬x.2.t=cN rs:=h;obtain⟨y,d,e⟩:=F.hit (p:=x.2.l) (q:=x.2.t) (by omega) (by omega) (by lia) (by lia)
   refine⟨y,d,?_⟩;have c:y.2.b=x.2.t:=by
    rcases jl F.ap f d with rfl|z|z
    ·omega
    ·delta Apart at z;omega
    ·delta Apart at z;omega
   show (decide (y.2.b=x.2.t)&&(decide (x.2.l<y.2.r)&&decide (y.2.l<x.2.r)))=true;simp;omega
  ·have h:¬x.2.r=cQ rs:=h;obtain⟨y,d,e⟩:=F.hit (p:=x.2.r) (q:=x.2.b) (by lia) (by lia) (by omega) (by omega)
   refine⟨y,d,?_⟩;have c:y.2.l=x.2.r:=by
    rcases jl F.ap f d with rfl|z|z
    ·omega
    ·delta Apart at z;omega
    ·delta Apart at z;omega
   show (decide (y.2.l=x.2.r)&&(decide (x.2.b<y.2.t)&&decide (y.2.b<x.2.t)))=true;simp;omega
  ·have h:¬x.2.b=0:=h;obtain⟨y,d,e⟩:=F.hit (p:=x.2.l) (q:=x.2.b-1) (by omega) (by omega) (by lia) (by omega)
   refine⟨y,d,?_⟩;have c:y.2.t=x.2.b:=by
    rcases jl F.ap f d with rfl|z|z
    ·omega
    ·delta Apart at z;omega
    ·delta Apart at z;omega
   show (decide (y.2.t=x.2.b)&&(decide (x.2.l<y.2.r)&&decide (y.2.l<x.2.r)))=true;simp;omega
  ·have h:¬x.2.l=0:=h;obtain⟨y,d,e⟩:=F.hit (p:=x.2.l-1) (q:=x.2.b) (by lia) (by omega) (by omega) (by omega)
   refine⟨y,d,?_⟩;have c:y.2.r=x.2.l:=by
    rcases jl F.ap f d with rfl|z|z
    ·omega
    ·delta Apart at z;omega
    ·delta Apart at z;omega
   show (decide (y.2.r=x.2.l)&&(decide (x.2.b<y.2.t)&&decide (y.2.b<x.2.t)))=true;simp;omega
 obtain⟨y,d,e⟩:=key;intro z;delta gn at z;rw[VD] at z;have:y∈rs.filter fun y=>cp k x.2 y.2:=gf.mpr ⟨d,e⟩
 rw[z] at this;cases this
theorem bD.outer{rs:Fl}(F:bD rs){x:eA×Ob}(hx:x∈rs){k:Nat}(c:k<4)(h:ic rs x.2 k):gn rs x.2 k=[]:=by
 delta gn;rw[VD,List.filter_eq_nil_iff];intro y d z;have a:=F.row y d;have b:=F.kr d;have c:k=0\/k=1\/k=2\/k=3:=by lia
 rcases c with rfl|rfl|rfl|rfl
 ·have h:x.2.t=cN rs:=h;have z:(decide (y.2.b=x.2.t)&&_)=true:=z;rw[ee,decide_eq_true_eq] at z;omega
 ·have h:x.2.r=cQ rs:=h;have z:(decide (y.2.l=x.2.r)&&_)=true:=z;rw[ee,decide_eq_true_eq] at z;omega
 ·have h:x.2.b=0:=h;have z:(decide (y.2.t=x.2.b)&&_)=true:=z;rw[ee,decide_eq_true_eq] at z;omega
 ·have h:x.2.l=0:=h;have z:(decide (y.2.r=x.2.l)&&_)=true:=z;rw[ee,decide_eq_true_eq] at z;omega
theorem bD.nodup{rs:Fl}(F:bD rs)(x:Ob){k:Nat}(i:k<4):((gn rs x k).map (·.1)).Nodup:=by
 delta gn;rw[fk];refine gj.mpr ?_;have h:rs.Pairwise fun y z=>cp k x y.2=true->cp k x z.2=true->cP k y.2≠cP k z.2:=by
  refine UN (fun {y z} f g ap d c e=>?_) F.ap
  have a:=F.row y f;have b:=F.row z g;unfold Apart at ap;have i:k=0\/k=1\/k=2\/k=3:=by lia
  rcases i with rfl|rfl|rfl|rfl
  ·have d:(decide (y.2.b=x.t)&&_)=true:=d;have c:(decide (z.2.b=x.t)&&_)=true:=c;have e:y.2.l=z.2.l:=e;rw[ee,decide_eq_true_eq] at d c;omega
  ·have d:(decide (y.2.l=x.r)&&_)=true:=d;have c:(decide (z.2.l=x.r)&&_)=true:=c;have e:- y.2.b=- z.2.b:=e;rw[ee,decide_eq_true_eq] at d c;omega
  ·have d:(decide (y.2.t=x.b)&&_)=true:=d;have c:(decide (z.2.t=x.b)&&_)=true:=c;have e:- y.2.l=- z.2.l:=e;rw[ee,decide_eq_true_eq] at d c;omega
  ·have d:(decide (y.2.r=x.l)&&_)=true:=d;have c:(decide (z.2.r=x.l)&&_)=true:=c;have e:y.2.b=z.2.b:=e;rw[ee,decide_eq_true_eq] at d c;omega
 have c:=h.filter (fun y=>cp k x y.2)
 refine UN (fun {y z} f g q=>?_) c
 exact q (gf.mp f).2 (gf.mp g).2
theorem bD.pos{rs:Fl}(F:bD rs):0<cQ rs/\0<cN rs:=by
 obtain⟨x,c⟩:=X2 rs F.ne;have a:=F.row x c;have b:=F.kr c
 lia
def jI(rs:Fl)(k:Nat):Ob:=if k=0 then ⟨0,cN rs,cQ rs,cN rs+1⟩ else if k=1 then ⟨cQ rs,0,cQ rs+1,cN rs⟩ else if k=2 then ⟨0,-1,cQ rs,0⟩ else ⟨-1,0,0,cN rs⟩
theorem JR{rs:Fl}(F:bD rs){x:eA×Ob}(g:x∈rs){k:Nat}(c:k<4):iG x.2 (j1 rs) k=if ic rs x.2 k then [(cP k (jI rs k),ay k)] else []:=by
 have a:=F.row x g;have b:=F.kr g;have p:=F.pos;have key:∀j,j<4->(decide (mv x.2 (jI rs j)=some k)=(decide (j=k)&&decide (ic rs x.2 k))):=by
  intro j d;rw[n4,ee,decide_eq_true_eq,decide_eq_true_eq,decide_eq_true_eq];have ok:(jI rs j).ok:=by
   have d:j=0\/j=1\/j=2\/j=3:=by lia
   rcases d with rfl|rfl|rfl|rfl
   ·exact⟨show (0:Int)<cQ rs by omega,show cN rs<cN rs+1 by lia⟩
   ·exact⟨show cQ rs<cQ rs+1 by lia,show (0:Int)<cN rs by omega⟩
   ·exact⟨show (0:Int)<cQ rs by omega,show (-1:Int)<0 by omega⟩
   ·exact⟨show (-1:Int)<0 by omega,show (0:Int)<cN rs by omega⟩
  rw[vG (F.ok g) ok c];have d:j=0\/j=1\/j=2\/j=3:=by lia
  have c:k=0\/k=1\/k=2\/k=3:=by lia
  rcases d with rfl|rfl|rfl|rfl<;>rcases c with rfl|rfl|rfl|rfl<;>simp[cp,dU,jI,ic]<;>omega
 have h:(j1 rs).filter (fun y=>decide (mv x.2 y.2=some k))=if ic rs x.2 k then [(ay k,jI rs k)] else []:=by
  have e:j1 rs=[(ay 0,jI rs 0),(ay 1,jI rs 1),(ay 2,jI rs 2),(ay 3,jI rs 3)]:=rfl;rw[e];simp only[P',List.filter_nil,key 0 (by decide),key 1 (by decide),key 2 (by decide),key 3 (by decide)]
  have c:k=0\/k=1\/k=2\/k=3:=by lia
  by_cases f:ic rs x.2 k
  ·simp only[decide_eq_true f,if_pos f]
   rcases c with rfl|rfl|rfl|rfl<;>rfl
  ·simp only[decide_eq_false f,if_neg f,Ve];rfl
 delta iG;rw[h];split<;>rfl
theorem PY{rs:Fl}(F:bD rs){x:eA×Ob}(a:x∈rs){k:Nat}(b:k<4):iG x.2 (rs++j1 rs) k=if ic rs x.2 k then [(cP k (jI rs k),ay k)] else gn rs x.2 k:=by
 have c:iG x.2 (rs++j1 rs) k=iG x.2 rs k++iG x.2 (j1 rs) k:=by
  delta iG;rw[Y8,eW]
 have d:iG x.2 rs k=gn rs x.2 k:=by
  delta iG gn;congr 1;refine V0 fun y e=>?_
  rw[n4,decide_eq_true_eq];exact vG (F.ok a) (F.ok e) b
 simp only[c,d,JR F a b]
 by_cases h:ic rs x.2 k
 ·rw[if_pos h,if_pos h,F.outer a b h];rfl
 ·rw[if_neg h,if_neg h,r4]
theorem G0{rs:Fl}(F:bD rs){x:eA×Ob}(a:x∈rs){k:Nat}(b:k<4):(cY (iG x.2 (rs++j1 rs) k)).map (·.2)=iT rs x.2 k:=by
 rw[PY F a b];delta iT
 by_cases h:ic rs x.2 k
 ·rw[if_pos h,if_pos (F.outer a b h)];delta cY;simp
 ·rw[if_neg h,if_neg (F.inner a b h)]
theorem bD.some{rs:Fl}(F:bD rs)(x:Ob):rQ rs x:=fun _ a=>F.nodup x a
section
variable{P:iN}{w:nE}{K:fj}{mg:eA->Option bR}{base:nS}
theorem sI{x:eA}(h:cF x=true):aP x:=by
 delta cF at h;simp only[ee] at h;obtain⟨⟨⟨h0,h1⟩,b⟩,_⟩:=h;refine⟨?_,by lia⟩
 rw[WT];intro a c;have:=ia.mp b a (YE.mpr c);unfold gP at this;simp
 lia
theorem CL{rs:List Int}{W:Int}(h:∀x∈rs,x<=W)(hw:W∈rs):gR rs=W:=by
 have h1:=vi hw;have h2:=h _ (LI (fun z=>by rw[z] at hw;cases hw))
 lia
theorem Lk{a b:eA}(c:cB a b=true)(d:cB b a=true):a=b:=kY (Vm (LS.mp (kd.mp c)) (LS.mp (kd.mp d)))
theorem J2(a:eA):cB a a=true:=kd.mpr (P2 _)
theorem O4(l:List eA):∃A B,l=A++B/\mr l=B++A:=by
 delta mr;split
 ·rename_i i _;exact⟨l.take i,l.drop i,(UK i l).symm,rfl⟩
 ·exact⟨[],l,rfl,by simp⟩
def pH(k:Nat)(a b:eA×Ob):Bool:=decide (cP k a.2<=cP k b.2)
theorem Dx(rs:Fl)(x:Ob):fS rs x 4=iT rs x 0++iT rs x 1++iT rs x 2++iT rs x 3:=by
 simp only[tY,tY,tY];rfl
theorem bD.vX{rs:Fl}(F:bD rs){y z:eA×Ob}(c:y∈rs)(d:z∈rs)(e:y.1=z.1):y=z:=by
 have:rs.Pairwise fun a b=>a.1≠b.1:=gj.mp F.nd
 rcases jl this c d with h|h|h
 ·exact h
 ·exact absurd e h
 ·exact absurd e.symm h
theorem zU(k:Nat):cF (ay k)=false:=by
 delta ay;split
 ·decide +kernel
 ·split
  ·decide +kernel
  ·split<;>decide +kernel
theorem zl{j k:Nat}(c:j<4)(d:k<4)(h:ay j=ay k):j=k:=by
 have key:∀a b:Fin 4,ay a.val=ay b.val->a=b:=by decide +kernel
 exact congrArg Fin.val (key ⟨j,c⟩ ⟨k,d⟩ h)
variable{rs:Fl}
theorem GK{i:Nat}{Z Z1:DS}{xs:List Dat}{d:Dat}{fa:AF}(h:(Z[i]?).bind ownOf=some (false,.lst xs))(a:fa Z=some ([d],Z1))(b:(Z1[i]?).bind ownOf=some (false,.lst xs))(hl:xs.length<dk):jQ i nV fa Z=some (.aB,Z1.set i (.own (.lst (xs++[d])))):=by
 unfold jQ;rw[h];show (fa Z).bind _=_;rw[a];show ((Z1[i]?).bind ownOf).bind _=_;rw[b];show (if xs.length<dk then some (Dat.aB,Dat.lst (xs++[d])) else none).map _=_
 rw[if_pos hl];rfl
end
def cM(rs:Fl):Ob:=⟨0,0,cQ rs,cN rs⟩
def allR(rs:Fl):Fl:=rs++j1 rs
theorem Af(rs:Fl):j1 rs=[(ay 0,wall (cM rs) 0),(ay 1,wall (cM rs) 1),(ay 2,wall (cM rs) 2),(ay 3,wall (cM rs) 3)]:=rfl
theorem sC(rs:Fl):(allR rs).map (·.2)=rs.map (·.2)++walls (cM rs):=by
 delta allR;rw[eW,Af];rfl
theorem BE{rs:Fl}(F:bD rs):(cM rs).ok:=⟨F.pos.1,F.pos.2⟩
theorem Bt{x y:Ob}{k:Nat}(a:k<4):Up (aa k x) (aa k y) ↔ cp k x y=true:=by
 have a:k=0\/k=1\/k=2\/k=3:=by lia
 rcases a with rfl|rfl|rfl|rfl<;>simp[Up,aa,af,cp,dU]<;>lia
theorem Av(p:Int×Int):∀(rs:Fl),(rs.filter fun y=>decide (p∈cI y.2)).length<=(o7 rs).count p
 | []=>eB _
 | y::rs=>by
  have ih:=Av p rs;have e:o7 (y::rs)=cI y.2++o7 rs:=rfl;simp[e]
  by_cases h:p∈cI y.2
  ·rw[List.filter_cons_of_pos (by simpa using h),f']
   have:=Y9.mpr h
   lia
  ·rw[List.filter_cons_of_neg (by simpa using h)]
   lia
theorem bD.Fu{rs:Fl}(F:bD rs)(hm:qF rs=false):az (cM rs) (rs.map (·.2)) where
 aG:=fun o ho=>by
  obtain⟨x,c,rfl⟩:=bg.mp ho;have a:=F.row x c;have b:=F.kr c;exact⟨a.1,a.2.1,b.1,a.2.2.1,a.2.2.2,b.2⟩
 ap:=fun a l b s=>by
  obtain⟨x,c,rfl⟩:=bg.mp l;obtain⟨y,d,rfl⟩:=bg.mp s
  rcases jl F.ap c d with e|e|e
  ·exact .inl (by rw[e])
  ·exact .inr e
  ·exact .inr e.symm
 hit:=fun p q u v w A=>by
  obtain⟨y,d,h⟩:=F.hit u v w A;exact⟨y.2,bg.mpr ⟨y,d,rfl⟩,h⟩
 four:=fun x c n B m k z C h=>by
  obtain⟨x,f,rfl⟩:=bg.mp c;obtain⟨n,g,rfl⟩:=bg.mp B;obtain⟨m,i,rfl⟩:=bg.mp k;obtain⟨z,j,rfl⟩:=bg.mp C;have rn:=F.row n g;have rm:=F.row m i;have rz:=F.row z j;delta qF at hm;rw[decide_eq_false_iff_not] at hm;obtain⟨D,E,G,H,I,J⟩:=h;have key:=Av (x.2.r,x.2.t) rs;have K:[x,n,m,z].length<=(rs.filter fun y=>decide ((x.2.r,x.2.t)∈cI y.2)).length:=by
   refine aby ?_ ?_
   ·have L:x≠n:=fun e=>by subst e;lia
    have M:x≠m:=fun e=>by subst e;omega
    have N:x≠z:=fun e=>by subst e;omega
    have O:n≠m:=fun e=>by subst e;omega
    have P:n≠z:=fun e=>by subst e;omega
    have Q:m≠z:=fun e=>by subst e;lia
    simp[L,M,N,O,P,Q]
   ·intro y d;rw[gf,decide_eq_true_eq];simp at d
    rcases d with rfl|rfl|rfl|rfl
    ·exact⟨f,by simp[cI]⟩
    ·exact⟨g,by simp[cI,D,E]⟩
    ·exact⟨i,by simp[cI,G,H]⟩
    ·exact⟨j,by simp[cI,I,J]⟩
  simp only[f',UE] at K;exact hm ⟨(x.2.r,x.2.t),Y9.mp (by omega),by omega⟩
theorem bD.En{rs:Fl}(F:bD rs):((allR rs).map (·.2)).Nodup:=by
 rw[sC,iR];refine⟨?_,?_,?_⟩
 ·refine gj.mpr (F.ap.imp_of_mem fun {x y} c hy h e=>?_)
  have a:=F.row x c;unfold Apart at h;rw[<-e] at h;omega
 ·have i:∀{j k:Nat},j<4->k<4->j≠k->wall (cM rs) j≠wall (cM rs) k:=fun g m d e=>d (jS (BE F) g m e)
  have e:walls (cM rs)=[wall (cM rs) 0,wall (cM rs) 1,wall (cM rs) 2,wall (cM rs) 3]:=rfl;rw[e];simp[i (show 0<4 by decide) (show 1<4 by decide) (by decide),i (show 0<4 by decide) (show 2<4 by decide) (by decide),i (show 0<4 by decide) (show 3<4 by decide) (by decide),i (show 1<4 by decide) (show 2<4 by decide) (by decide),i (show 1<4 by decide) (show 3<4 by decide) (by decide),i (show 2<4 by decide) (show 3<4 by decide) (by decide)]
 ·intro a n b f e;subst e;obtain⟨x,c,rfl⟩:=bg.mp n;have r:=F.row x c;have b:=F.kr c;simp[walls] at f
  rcases f with h|h|h|h<;>(have o:=congrArg Ob.l h;have p:=congrArg Ob.b h;have q:=congrArg Ob.r h;have s:=congrArg Ob.t h;dsimp only[wN,wE,wS,wW,cM] at o p q s;omega)
theorem kL{rs:Fl}{y:eA×Ob}:y∈allR rs ↔ y∈rs\/∃k,k<4/\y=(ay k,wall (cM rs) k):=by
 delta allR;rw[et,Af];refine or_congr Iff.rfl ?_;constructor
 ·intro h;simp at h
  rcases h with h|h|h|h
  ·exact⟨0,by decide,h⟩
  ·exact⟨1,by decide,h⟩
  ·exact⟨2,by decide,h⟩
  ·exact⟨3,by decide,h⟩
 ·rintro⟨k,a,rfl⟩;have a:k=0\/k=1\/k=2\/k=3:=by lia
  rcases a with rfl|rfl|rfl|rfl<;>simp
theorem bD.IK{rs:Fl}(F:bD rs){y z:eA×Ob}(a:y∈allR rs)(b:z∈allR rs)(e:y.1=z.1):y=z:=by
 rcases kL.mp a with a|⟨j,c,rfl⟩<;>rcases kL.mp b with b|⟨k,d,rfl⟩
 ·exact F.vX a b e
 ·have:=F.nm y a;rw[e,zU] at this;contradiction
 ·have:=F.nm z b;rw[<-e,zU] at this;contradiction
 ·have:=zl c d e;subst this;rfl
def lr(rs:Fl)(o:Ob):Str:=(((allR rs).find? fun y=>decide (y.2=o)).map (·.1)).getD ""
theorem bD.lH{rs:Fl}(F:bD rs){y:eA×Ob}(b:y∈allR rs):lr rs y.2=y.1:=by
 delta lr;cases e:(allR rs).find? fun z=>decide (z.2=y.2) with
 | none =>
  have:=WW.mp e y b;simp at this
 | some z =>
  have c:=VX e;have a:=Xw e;have a:z.2=y.2:=by simpa using a
  have nd:=F.En;have:z=y:=by
   rcases jl (gj.mp nd) c b with q|q|q
   ·exact q
   ·exact absurd a q
   ·exact absurd a.symm q
  rw[this];rfl
theorem bD.uF{rs:Fl}(F:bD rs){y:eA×Ob}(b:y∈allR rs):y.2.ok:=by
 have hp:=F.pos
 rcases kL.mp b with h|⟨j,a,rfl⟩
 ·exact F.ok h
 ·have a:j=0\/j=1\/j=2\/j=3:=by lia
  rcases a with rfl|rfl|rfl|rfl
  ·exact⟨show (0:Int)<cQ rs by omega,show cN rs<cN rs+1 by lia⟩
  ·exact⟨show cQ rs<cQ rs+1 by lia,show (0:Int)<cN rs by omega⟩
  ·exact⟨show (0:Int)<cQ rs by omega,show (-1:Int)<0 by omega⟩
  ·exact⟨show (-1:Int)<0 by omega,show (0:Int)<cN rs by omega⟩
theorem bD.zO{rs:Fl}(F:bD rs){y:eA×Ob}(a:y∈rs){k:Nat}(c:k<4):Apart y.2 (wall (cM rs) k):=by
 have r:=F.row y a;have b:=F.kr a;have c:k=0\/k=1\/k=2\/k=3:=by lia
 rcases c with rfl|rfl|rfl|rfl<;>simp[Apart,wall,wN,wE,wS,wW,cM]<;>omega
theorem bD.Ni{rs:Fl}(F:bD rs){y z:eA×Ob}(c:y∈allR rs)(d:z∈allR rs):y=z\/Apart y.2 z.2:=by
 have hp:=F.pos
 rcases kL.mp c with h|⟨j,a,rfl⟩<;>rcases kL.mp d with h'|⟨k,b,rfl⟩
 ·rcases jl F.ap h h' with e|e|e
  ·exact .inl e
  ·exact .inr e
  ·exact .inr e.symm
 ·exact .inr (F.zO h b)
 ·exact .inr (F.zO h' a).symm
 ·have b:k=0\/k=1\/k=2\/k=3:=by lia
  have a:j=0\/j=1\/j=2\/j=3:=by lia
  rcases a with rfl|rfl|rfl|rfl<;>rcases b with rfl|rfl|rfl|rfl<;>first|exact .inl rfl|(right;simp[Apart,wall,wN,wE,wS,wW,cM];done)|(right;simp[Apart,wall,wN,wE,wS,wW,cM];omega)
theorem bD.sF{rs:Fl}(F:bD rs){x:eA×Ob}(m:x∈rs){k:Nat}(d:k<4):iT rs x.2 k=(bz ((allR rs).map (·.2)) x.2 k).map (lr rs):=by
 have j:=G0 F m d;have o:(allR rs).filter (fun y=>decide (mv x.2 y.2=Option.some k))=(allR rs).filter fun y=>decide (Up (aa k x.2) (aa k y.2)):=V0 fun y c=>decide_eq_decide.mpr ((vG (F.ok m) (F.uF c) d).trans (Bt d).symm)
 have g:∀y∈(allR rs).filter (fun y=>decide (Up (aa k x.2) (aa k y.2))),y∈allR rs/\cp k x.2 y.2=true:=fun y c=>by
  obtain⟨p,q⟩:=gf.mp c;exact⟨p,(Bt d).mp (of_decide_eq_true q)⟩
 change ((((allR rs).filter fun y=>decide (mv x.2 y.2=Option.some k)).map fun y=>(cP k y.2,y.1)).mergeSort fun a b=>decide (a.1<=b.1)).map (·.2)=_ at j
 rw[o] at j;rw[<-j];delta bz;have t:((allR rs).map (·.2)).filter (fun y=>decide (Up (aa k x.2) (aa k y)))=((allR rs).filter fun y=>decide (Up (aa k x.2) (aa k y.2))).map (·.2):=ZO
 rw[t];generalize hL:(allR rs).filter (fun y=>decide (Up (aa k x.2) (aa k y.2)))=L at g
 have n:∀a∈allR rs,∀b∈allR rs,cp k x.2 a.2=true->cp k x.2 b.2=true->(cP k a.2<=cP k b.2 ↔ (aa k a.2).l<=(aa k b.2).l):=fun a h b i qa qb=>by
  rcases F.Ni h i with e|e
  ·subst e;exact⟨fun _=>U' _,fun _=>U' _⟩
  ·have o1:=F.uF h;have o2:=F.uF i;delta Apart at e;unfold Ob.ok at o1 o2;have d:k=0\/k=1\/k=2\/k=3:=by lia
   rcases d with rfl|rfl|rfl|rfl<;>simp[cP,cp,dU,aa,af] at *<;>omega
 have u:(L.map fun y=>(cP k y.2,y.1)).mergeSort (fun a b=>decide (a.1<=b.1))=(L.mergeSort (pH k)).map fun y=>(cP k y.2,y.1):=(U4 (r:=pH k) (s:=fun a b:Int×eA=>decide (a.1<=b.1)) (f:=fun y:eA×Ob=>(cP k y.2,y.1)) fun a _ b _=>rfl).symm
 have v:(L.map (·.2)).mergeSort (fun a b=>decide ((aa k a).l<=(aa k b).l))=(L.mergeSort (pH k)).map (·.2):=(U4 fun a h b i=>by
  unfold pH;exact decide_eq_decide.mpr (n a (g a h).1 b (g b i).1 (g a h).2 (g b i).2)).symm
 simp only[u,v,fk];refine pA fun y c=>?_
 have c:=(g y (Y4.mp c)).1;exact (F.lH c).symm
theorem bD.Fz{rs:Fl}(F:bD rs){x:eA×Ob}(a:x∈rs):fS rs x.2 4=(ba (rs.map (·.2)++walls (cM rs)) x.2).map (lr rs):=by
 rw[Dx,F.sF a (by decide),F.sF a (by decide),F.sF a (by decide),F.sF a (by decide),sC]
 delta ba;simp only[eW]
noncomputable def eE(web:List (eA×List eA))(n:eA):List Str:=((web.find? fun p=>decide (p.1=n)).map (·.2)).getD []
noncomputable def iP(a b:eA):Bool:=!cB b a
theorem Dz:Order iP where
 fM:=fun a=>by unfold iP;rw[J2];rfl
 tr:=fun a b c d e=>by
  delta iP at *;simp only[pl] at *;cases h:cB c a with
  | false=>rfl
  | true =>
   have t:=sd b a;rw[d,Ya] at t;rw[rE _ _ _ h t] at e;contradiction
 cS:=fun a b h=>by
  delta iP;cases d:cB b a with
  | false=>exact .inl rfl
  | true =>
   cases e:cB a b with
   | false=>exact .inr rfl
   | true=>exact absurd (Lk e d) h
theorem dz{web:List (eA×List eA)}(nd:(web.map (·.1)).Nodup){p:eA×List eA}(a:p∈web):eE web p.1=p.2:=by
 delta eE;cases e:web.find? fun z=>decide (z.1=p.1) with
 | none =>
  have:=WW.mp e p a;simp at this
 | some z =>
  have c:=VX e;have b:z.1=p.1:=by simpa using Xw e
  have:z=p:=by
   rcases jl (gj.mp nd) c a with q|q|q
   ·exact q
   ·exact absurd b q
   ·exact absurd b.symm q
  rw[this];rfl
theorem Es(l:List eA):gI l (mr l):=by
 obtain⟨A,B,a,b⟩:=O4 l;exact⟨A,B,a,b⟩
def jt(web:List (eA×List eA)):Prop:=nF (web.map (·.1)) ay (eE web) iP
theorem bD.ye{rs:Fl}(F:bD rs)(hm:qF rs=false){web:List (eA×List eA)}(g:web.Perm (rs.map fun y=>(y.1,mr (fS rs y.2 4)))):jt web:=by
 have T:=F.Fu hm;have nd:=F.En;rw[sC] at nd;have d:∀{x:eA×Ob},x∈rs->x∈allR rs:=fun h=>kL.mpr (.inl h)
 have m:(rs.map (·.2)).map (lr rs)=rs.map (·.1):=by
  rw[fk];exact pA fun x c=>F.lH (d c)
 have o:(fun k=>lr rs (wall (cM rs) k))=ay:=by
  funext k
  by_cases q:k<4
  ·exact F.lH (kL.mpr (.inr ⟨k,q,rfl⟩))
  ·have r:wall (cM rs) k=wall (cM rs) 3:=by
    delta wall;rw[if_neg (by omega),if_neg (by omega),if_neg (by omega)]
    rfl
   have s:ay k=ay 3:=by
    delta ay;rw[if_neg (by omega),if_neg (by omega),if_neg (by omega)]
    rfl
   simp only[r,s];exact F.lH (kL.mpr (.inr ⟨3,by decide,rfl⟩))
 have ob:∀{a:Ob},a∈rs.map (·.2)++walls (cM rs)->∃y∈allR rs,y.2=a:=fun {a} h=>by
  rw[<-sC] at h;exact bg.mp h
 have i:=T.ye (ν:=lr rs) (BE F) nd (fun a f b t e=>by
  obtain⟨y,j,rfl⟩:=ob f;obtain⟨z,l,rfl⟩:=ob t;simp only[F.lH j,F.lH l] at e;rw[F.IK j l e]) (fun a f=>by
  obtain⟨x,c,rfl⟩:=bg.mp f;simp only[F.lH (d c),<-F.Fz c];exact dz (p:=(x.1,fS rs x.2 4)) (by rw[fk];exact F.nd) (bg.mpr ⟨x,c,rfl⟩)) Dz
 rw[m,o] at i;have pn:(web.map (·.1)).Perm (rs.map (·.1)):=by
  have:=g.map (·.1);rw[fk] at this;exact this
 refine i.turn pn fun n u=>?_
 obtain⟨x,c,rfl⟩:=bg.mp u;simp only[dz (web:=rs.map fun y=>(y.1,fS rs y.2 4)) (p:=(x.1,fS rs x.2 4)) (by rw[fk];exact F.nd) (bg.mpr ⟨x,c,rfl⟩),dz (p:=(x.1,mr (fS rs x.2 4))) (pn.nodup_iff.mpr F.nd) (g.mem_iff.mpr (bg.mpr ⟨x,c,rfl⟩))]
 exact Es _
local macro_rules | `(tactic| walk_at "U")=>Mq.fs "L9 A|KL rarA"
local macro_rules | `(tactic| walk_at "1")=>Mq.fs "Jz ardrrrrA"
local macro_rules | `(tactic| walk_at "0")=>Mq.fs "Jb hrVddrU|IW rrarA|E1 rarA|zt rrrarA|GL rarA|QA DD"
local macro_rules | `(tactic| walk_at "T")=>Mq.fs "EY hrVddrU|E9 hrVddrU|PH DD"
local macro_rules | `(tactic| walk_at "I")=>Mq.fs "MB rarrA|EK arVdd|MF arVdd|NU a0"
local macro_rules | `(tactic| walk_at "Z")=>Mq.fs "OU aNrLFrE|N8 aNrLFr|Qj rVhddrDU|Gn wTS"
section
variable{P:iN}{w:nE}{K:fj}{mg:eA->Option bR}{base:nS}
noncomputable abbrev B7:List Str:=["north","east","south","west"]
noncomputable abbrev m9:Dat:=.tup [.str "north",.str "east",.str "south",.str "west"]
def uu(fn:bc):Prop:=∀k,k<4->fn [.str (ay k)]=some (.dat (.str (ay ((k+1)%4))))
theorem Pp(T:Txt mg)(w1:fY K mg "WALLS" m9)(w2:wq K mg "WALLS" B7){f:dR}{a:hQ}(F:bf K "follower" "follower" vR f a):∃fn,aO P w K mg base bh 1 f a ["wall"] (aY K fn)/\uu fn:=by
 refine' df F C0 rfl ?C ?B
 case C =>
  intro cdv A outer s H E hr;cases T
  walk_at "S"
 case B =>
  intro k hk;have:k=0\/k=1\/k=2\/k=3:=by lia
  rcases this with rfl|rfl|rfl|rfl<;>rfl
theorem Qk(a:List eA)(k:Nat):gC (.lst (a.map .str)) (some (k:Int)) none=some (.own (.lst ((a.drop k).map .str))):=by
 show some (Res.own (.lst (cutD (a.map Dat.str) (some (k:Int)) none)))=_;rw[tX,V5]
theorem AK(a:List eA)(k:Nat):gC (.lst (a.map .str)) none (some (k:Int))=some (.own (.lst ((a.take k).map .str))):=by
 show some (Res.own (.lst (cutD (a.map Dat.str) none (some (k:Int)))))=_;rw[pV,V4]
theorem fq{c:BF}{s g:SF}{Z Z1:DS}{b:Bool}{Q:Out->Prop}(h:c Z=some (b,Z1))(a:b=false)(n:WS g Z1 Q):WS (i8 (j3 c s qD) g) Z Q :=
 aj (gy h (fun z=>by rw[a] at z;cases z) fun _=>bC (aq n))
theorem qx{a:List eA}(b:∀x∈a,aP x){m:eA}(hm:aP m)(neg:Bool):fI neg (.str m) (.lst (a.map .str))=some (.dat (.bl (if neg then !decide (m∈a) else decide (m∈a)))):=by
 rw[C2 hm.ok (fun y c=>(b y c).ok)]
 have:(a.any fun y=>decide (y=m))=decide (m∈a):=by
  rw[n4];simp
 rw[this]
theorem Iz{x y:eA}(a:aP x)(b:aP y):eX true (.str x) (.str y)=some (.dat (.bl (!decide (x=y)))):=by rw[qm (ju a.ok) (ju b.ok),kA]
def bZ:List Str:=[ay 0,ay 1,ay 2,ay 3]
structure bB (web:List (eA×List eA)):Prop where
 bT:1<=web.length/\web.length<=8
 nm:∀p∈web,cF p.1=true
 nd:(web.map (·.1)).Nodup
 rg:∀p∈web,3<=p.2.length/\p.2.Nodup/\∀n∈p.2,(n∈web.map (·.1)\/n∈bZ)/\n≠p.1
theorem rY:∀n∈bZ,aP n:=by
 intro n a;simp[bZ] at a
 rcases a with rfl|rfl|rfl|rfl<;>exact⟨by decide +kernel,by decide +kernel⟩
theorem bB.txt{web:List (eA×List eA)}(h:bB web){n:eA}(a:n∈web.map (·.1)\/n∈bZ):aP n:=by
 rcases a with a|a
 ·obtain⟨p,b,rfl⟩:=bg.mp a;exact sI (h.nm p b)
 ·exact rY n a
theorem xA{b:Type}[DecidableEq b]:∀{l m:List b},l.Nodup->(∀x∈l,x∈m)->l.length<=m.length
 | [],_,_,_=>ro _
 | a::l,m,c,h=>by
  have e:=xA (l:=l) (m:=m.erase a) (me.mp c).2 fun x d=>(YI fun z=>(me.mp c).1 (by rw[<-z];exact d)).mpr (h x (fm _ d))
  rw[X9 (h a fv)] at e;have:=Yi (h a fv);simp
  lia
theorem bB.len{web:List (eA×List eA)}(h:bB web){p:eA×List eA}(b:p∈web):p.2.length<=12:=by
 have a:=(h.rg p b);have:p.2.length<=(web.map (·.1)++bZ).length:=by
  exact xA a.2.1 fun n c=>et.mpr (a.2.2 n c).1
 rw[eH,a7] at this;have:=h.bT;have:bZ.length=4:=rfl
 lia
abbrev aE:=List (eA×List eA)
noncomputable def cT(web:aE):List (eA×Dat):=web.map fun p=>(p.1,.lst (p.2.map .str))
def aX(web:aE):Dat:=.dC (cT web)
theorem yU{c:Type}{l:List (eA×c)}(nd:(l.map (·.1)).Nodup){p q:eA×c}(f:p∈l)(g:q∈l)(e:p.1=q.1):p=q:=by
 obtain⟨i,d⟩:=YB.mp f;obtain⟨j,b⟩:=YB.mp g;cases pF nd (a:=p.1) (by rw[eo,d];rfl) (by rw[eo,b,e];rfl)
 rw[d] at b;exact Option.some.inj b
theorem kK{web:aE}(nd:(web.map (·.1)).Nodup){p:eA×List eA}(a:p∈web):dc (cT web) p.1=some (.lst (p.2.map .str)):=by
 have e:(web.find? fun q=>decide (q.1=p.1))=some p:=by
  cases e:web.find? fun q=>decide (q.1=p.1) with
  | none=>exact absurd (WW.mp e p a) (by simp)
  | some q =>
   have b:=VX e;have c:=Xw e;rw[yU nd b a (by simpa using c)]
 delta dc cT;rw[List.find?_map];show ((web.find? fun q=>decide (q.1=p.1)).map _).map _=_
 rw[e];rfl
theorem Iv(web:aE)(n:eA):(dc (cT web) n).isSome=decide (n∈web.map (·.1)):=by
 delta dc cT;rw[n4];simp
theorem qY(web:aE)(n:eA)(neg:Bool):fI neg (.str n) (aX web)=some (.dat (.bl (if neg then !decide (n∈web.map (·.1)) else decide (n∈web.map (·.1))))):=by
 rw[<-Iv];rfl
theorem gK{a:Type}{l:List a}{k:Nat}{x:a}(h:l[k]?=some x):l.take (k+1)=l.take k++[x]:=by rw[List.take_succ,h];rfl
def di:Dat->Bool
 | .tup [.str x,.lst _]=>cF x
 | _=>false
inductive jc:Dat->Prop
 | str (x):jc (.str x)
 | lst (ds):jc (.lst ds)
 | tup (ds:List Dat) (h:ds.length<=3) (q:∀d∈ds,(∃x,d=.str x/\aP x)\/(∃l,d=.lst l)\/∃l,d=.tup l):jc (.tup ds)
def CH(fn:bc):Prop:=∀d,jc d->fn [d]=some (.dat (.bl (di d)))
theorem LQ(T:Txt mg){e:bc}(m:bj P w K mg base "is_name" 1 (aY K e))(i:Aj e/\Ax e){f:dR}{j:hQ}(F:bf K "is_pair" "is_pair" uR f j):∃fn,aO P w K mg base bh 2 f j ["thing"] (aY K fn)/\CH fn:=by
 refine' df F CA (n:=1) rfl ?C ?D
 case C =>
  intro cdv A outer s H E hr;have nd:=CA.nd;cases T
  walk_at "S"
 case D =>
  clear T F m;intro d h;refine' dS rfl ?w
  case w =>
   show WS _ [.dat d] _;cases h with
   | str x=>exact fE (v_or (ff (dM (kC rfl rfl) rfl)) rfl) rfl rfl ⟨_,rfl⟩
   | lst ds=>exact fE (v_or (ff (dM (kC rfl rfl) rfl)) rfl) rfl rfl ⟨_,rfl⟩
   | tup ds hl g =>
    match ds,hl,g with
    | [],_,_=>exact fE (v_or (ff (dM (kC rfl rfl) rfl)) (by walk_at "v")) rfl rfl ⟨_,rfl⟩
    | [a],_,_=>exact fE (Z1:=[.dat (.tup [a])]) (b:=true) rfl rfl rfl (fy (by simp[di]))
    | [a,b,c],_,_=>exact fE (Z1:=[.dat (.tup [a,b,c])]) (b:=true) rfl rfl rfl (fy (by simp[di]))
    | [a,b],_,g =>
     refine' fq ?a rfl ?b
     case a=>walk_at "v"
     case b =>
      have o:=g a (by simp)
      have C:=g b (by simp)
      obtain⟨B,p,q⟩:∃B,kj b "list"=some B/\∀x,di (.tup [.str x,b])=(cF x&&B):=by
       rcases C with⟨y,rfl,_⟩|⟨l,rfl⟩|⟨l,rfl⟩
       ·exact⟨false,rfl,fun x=>by simp[di]⟩
       ·exact⟨true,rfl,fun x=>by simp[di]⟩
       ·exact⟨false,rfl,fun x=>by simp[di]⟩
      obtain⟨A,k⟩:∃A,e [a]=some (.dat (.bl A))/\di (.tup [a,b])=(A&&B):=by
       rcases o with⟨x,rfl,r⟩|⟨l,rfl⟩|⟨l,rfl⟩
       ·exact⟨_,i.1 x r,q x⟩
       ·exact⟨_,i.2 _ rfl,by simp[di]⟩
       ·exact⟨_,i.2 _ rfl,by simp[di]⟩
      rw[k.2];exact aj (cg (v_res (tO (ah (aZ (ae (bA rfl rfl rfl rfl) ak) k.1) rfl) (kC (bA rfl rfl rfl rfl) p))) ⟨_,rfl⟩)
    | _::_::_::_::_,h,_=>exact absurd h (by simp)
theorem v_allB{a:Type}{enc:a->Dat}{caps:List (Option Nat)}{fi:IF}{g:GF}{fe:DF}{xs:List a}{Z Z1 Z2:DS}(put:a->DS)(B:a->Bool)(b:fi Z=some (xs.map enc,Z1))(c:a9 none caps Z1=Z2)(d:xs.length<=dk)
 (e:∀x∈xs,∀Z,(Z=bX caps Z2\/∃y,Z=put y)->g (enc x) Z=some (put x))(f:∀x∈xs,fe (put x)=some (.bl (B x),put x))(h:∀x∈xs,noOwn (put x)=true) :
  bY mo (dJ (dG (dm caps none fi g (fun Z=>some (true,Z)) fe)) fO) Z=some (.dat (.bl (xs.all B)),Z2) :=
 aZ (ae (ah (gZ put (fun x=>.bl (B x)) b c d e f h) rfl) ak) (GG B xs)
theorem rD{caps:List (Option Nat)}{fi:IF}{g:GF}{fe:DF}{xs:List Dat}{Z Z1 Z2:DS}(put:Dat->DS)(B:Dat->Bool)(a:fi Z=some (xs,Z1))(b:a9 none caps Z1=Z2)(c:xs.length<=dk)
 (e:∀x∈xs,∀Z,(Z=bX caps Z2\/∃y,Z=put y)->g x Z=some (put x))(f:∀x∈xs,fe (put x)=some (.bl (B x),put x))(h:∀x∈xs,noOwn (put x)=true) :
  bY mo (dJ (dG (dm caps none fi g (fun Z=>some (true,Z)) fe)) fO) Z=some (.dat (.bl (xs.all B)),Z2) :=
 v_allB (enc:=fun d=>d) put B (by rw[UT];exact a) b c e f h
inductive jq:Dat->Prop
 | str (x) (h:aP x):jq (.str x)
 | lst (ds) (h:bH (.lst ds)=true):jq (.lst ds)
 | tup (ds) (h:bH (.tup ds)=true):jq (.tup ds)
noncomputable def jo(names:List eA)(room:eA):Dat->Bool
 | .str n=>decide (n∈names)&&!decide (n=room)
 | _=>false
noncomputable def strsOf(ds:List Dat):List Str:=ds.filterMap fun d=>match d with|.str x=>some x|_=>none
def hJ(room:eA)(ring:List Dat)(names:List eA):Bool:=decide (3<=ring.length)&&ring.all (jo names room)&&decide (strsOf ring).Nodup
def Dy(fn:bc):Prop:=∀(room:eA) (ring:List Dat) (names:List eA),aP room->ring.length<100->(∀d∈ring,jq d)->(∀n∈names,aP n)->fn [.str room,.lst ring,.lst (names.map .str)]=some (.dat (.bl (hJ room ring names)))
theorem Er{a:List eA}(b:∀x∈a,aP x){d:Dat}(c:bH d=true)(hd:(∃l,d=.lst l)\/∃l,d=.tup l):fI false d (.lst (a.map .str))=some (.dat (.bl false)):=by
 have e:fI false d (.lst (a.map .str))=oV false d (.lst (a.map .str)):=by rcases hd with⟨l,rfl⟩|⟨l,rfl⟩<;>rfl
 have f:oV false d (.lst (a.map .str))=if bH d&&bH (.lst (a.map .str)) then some (.dat (.bl (inD d (a.map .str)))) else none:=by rcases hd with⟨l,rfl⟩|⟨l,rfl⟩<;>rfl
 rw[e,f,c,rA b];have g:inD d (a.map .str)=false:=by
  rw[nj,Wo,List.any_eq_false];intro y _
  rcases hd with⟨l,rfl⟩|⟨l,rfl⟩
  ·show ¬dw (.str y) (.lst l)=true;rw[show dw (.str y) (.lst l)=false from rfl];decide
  ·show ¬dw (.str y) (.tup l)=true;rw[show dw (.str y) (.tup l)=false from rfl];decide
 rw[g];rfl
theorem strs_map(a:List eA):strsOf (a.map .str)=a:=by
 unfold strsOf;rw[WX];exact YZ
theorem all_strs{names:List eA}{room:eA}:∀{ring:List Dat},ring.all (jo names room)=true->∃a:List eA,ring=a.map .str/\∀n∈a,n∈names/\n≠room
 | [],_=>⟨[],rfl,by simp⟩
 | d::r,h=>by
  rw[V6,ee] at h;obtain⟨a,e,q⟩:=all_strs h.2;cases d with
  | str n =>
   have b:=h.1;simp only[jo,ee,decide_eq_true_eq,pl,decide_eq_false_iff_not] at b;refine⟨n::a,by rw[e];rfl,fun m hm=>?_⟩
   rcases ey.mp hm with rfl|hm
   ·exact b
   ·exact q m hm
  | _=>exact absurd h.1 (by simp[jo])
theorem Oz(T:Txt mg)(w3:fY K mg "FEWEST_NEIGHBOURS" (.int 3))(hs:mg "set"=none){f:dR}{r:hQ}(F:bf K "is_ring" "is_ring" xF f r):∃fn,aO P w K mg base bh 1 f r ["room","ring","names"] (aY K fn)/\Dy fn:=by
 refine' df F Cw (n:=3) rfl ?M ?B
 case M =>
  intro cdv A outer s H E hr;have nd:=Cw.nd;cases T
  walk_at "S"
 case B =>
  clear T F;intro room ring names j N O k;refine' dS rfl ?w
  case w =>
   show WS _ [.dat (.str room),.dat (.lst ring),.dat (.lst (names.map .str))] _;have sz:ring.length<=sizeLine:=by unfold dk;lia
   have ln:cD (.lst ring)=some ring.length:=by simp[cD]
   have t:∀d∈ring,∃h i,fI false d (.lst (names.map .str))=some (.dat (.bl h))/\eX true d (.str room)=some (.dat (.bl i))/\jo names room d=(h&&i):=by
    intro d hd;cases O d hd with
    | str x u=>exact⟨_,_,qx k u false,Iz u j,rfl⟩
    | lst l hl=>exact⟨_,_,Er k hl (.inl ⟨l,rfl⟩),qm hl (ju j.ok),rfl⟩
    | tup l hl=>exact⟨_,_,Er k hl (.inr ⟨l,rfl⟩),qm hl (ju j.ok),rfl⟩
   by_cases v:3<=ring.length
   ·refine' fq ?a ?C ?D
    case a=>walk_at "v"
    case C=>simp;omega
    case D =>
     by_cases c:ring.all (jo names room)=true
     ·refine' fq (ff (dM (ah (rD (xs:=ring) (fun n=>[.no,.dat n,.dat (.lst (names.map .str)),.dat (.str room)]) (jo names room) (dy rfl) rfl sz ?G ?I ?J) rfl) rfl)) ?L ?b
      case G=>intro y Q Z hd;rcases hd with rfl|⟨z,rfl⟩<;>rfl
      case I =>
       intro n g;obtain⟨h,i,m,o,p⟩:=t n g;rw[p];exact tO (ah (au rfl rfl m) rfl) (ah (au rfl rfl o) rfl)
      case J=>intro n g;rfl
      case L=>rw[c];rfl
      case b =>
       obtain⟨R,e,q⟩:=all_strs c;subst e;refine aj (cg (au (wR (cs:=R) (fun x=>x) rfl (by simp at N;omega)) (eG rfl rfl) A2) (fy ?_))
       unfold hJ;rw[c,decide_eq_true v,strs_map,UT,a7];simp only[aae,Vx];rw[n4,decide_eq_true_iff,decide_eq_true_iff,<-vp];omega
     ·refine' fE (ff (dM (ah (rD (xs:=ring) (fun n=>[.no,.dat n,.dat (.lst (names.map .str)),.dat (.str room)]) (jo names room) (dy rfl) rfl sz ?G ?I ?J) rfl) rfl)) ?L rfl (fy ?S)
      case G=>intro y Q Z hd;rcases hd with rfl|⟨z,rfl⟩<;>rfl
      case I =>
       intro n g;obtain⟨h,i,m,o,p⟩:=t n g;rw[p];exact tO (ah (au rfl rfl m) rfl) (ah (au rfl rfl o) rfl)
      case J=>intro n g;rfl
      case L=>rw[v3] at c;rw[c];rfl
      case S=>unfold hJ;rw[v3] at c;rw[c];simp
   ·refine' fE ?a ?C rfl (fy ?D)
    case a=>walk_at "v"
    case C=>simp;omega
    case D=>unfold hJ;rw[decide_eq_false v];rfl
noncomputable def jF(p:eA×List Dat):Dat:=.tup [.str p.1,.lst p.2]
noncomputable def asPair:Dat->Option (eA×List Dat)
 | .tup [.str x,.lst l]=>some (x,l)
 | _=>none
def jv(a:List (eA×List Dat)):Bool:=decide (a.map (·.1)).Nodup&&a.all fun p=>hJ p.1 p.2 (a.map (·.1)++bZ)
def fV:Dat->Bool
 | .lst ds=>decide (1<=ds.length)&&decide (ds.length<=8)&&ds.all di&&jv (ds.filterMap asPair)
 | _=>false
inductive dQ:Dat->Prop
 | str (x):dQ (.str x)
 | tup (ds):dQ (.tup ds)
 | lst (ds) (h:ds.length<100) (h1:∀d∈ds,jc d) (h2:∀x l,.tup [.str x,.lst l]∈ds->l.length<100/\∀e∈l,jq e):dQ (.lst ds)
def AD(fn:bc):Prop:=∀d,dQ d->fn [d]=some (.dat (.bl (fV d)))
theorem xf(a:List (eA×List Dat)):(a.map jF).filterMap asPair=a:=by
 rw[WX];exact YZ
theorem Oj{d:Dat}(h:di d=true):∃p:eA×List Dat,d=jF p/\cF p.1=true:=by
 unfold di at h;split at h
 ·exact⟨(_,_),rfl,h⟩
 ·cases h
theorem u6:∀{ds:List Dat},ds.all di=true->∃a:List (eA×List Dat),ds=a.map jF/\∀p∈a,cF p.1=true
 | [],_=>⟨[],rfl,by simp⟩
 | d::r,h=>by
  rw[V6,ee] at h;obtain⟨a,e,q⟩:=u6 h.2;obtain⟨p,b,c⟩:=Oj h.1;refine⟨p::a,by rw[e,b];rfl,fun m hm=>?_⟩
  rcases ey.mp hm with rfl|hm
  ·exact c
  ·exact q m hm
theorem Km(T:Txt mg)(w1:fY K mg "WALLS" m9)(w3:fY K mg "MOST_ROOMS" (.int 8))(hs:mg "set"=none){l m:bc}(R:bj P w K mg base "is_pair" 2 (aY K l))(t:CH l)(S:bj P w K mg base "is_ring" 1 (aY K m))(U:Dy m){f:dR}{u:hQ}(F:bf K "has_form" "has_form" xX f u):∃fn,aO P w K mg base bh 3 f u ["web"] (aY K fn)/\AD fn:=by
 refine' df F Bl (n:=1) rfl ?V ?B
 case V =>
  intro cdv A outer s H E v;have nd:=Bl.nd;cases T
  walk_at "S"
 case B =>
  clear T F R S;intro d h;refine' dS rfl ?w
  case w =>
   show WS _ [.dat d,.no,.no] _;cases h with
   | str x=>exact fE (v_or (ff (dM (kC rfl rfl) rfl)) rfl) rfl rfl ⟨_,rfl⟩
   | tup ds=>exact fE (v_or (ff (dM (kC rfl rfl) rfl)) rfl) rfl rfl ⟨_,rfl⟩
   | lst ds g k v =>
    have sz:ds.length<=sizeLine:=by unfold dk;lia
    have ln:cD (.lst ds)=some ds.length:=by simp[cD]
    by_cases hl:1<=ds.length/\ds.length<=8
    ·refine' fq ?a ?C ?D
     case a=>walk_at "v"
     case C=>simp;lia
     case D =>
      by_cases i:ds.all di=true
      ·refine' fq (ff (dM (ah (rD (xs:=ds) (fun p=>[.no,.dat p]) di (dy rfl) rfl sz ?G ?I ?J) rfl) rfl)) ?L ?b
       case G=>intro y o Z hd;rcases hd with rfl|⟨z,rfl⟩<;>rfl
       case I =>
        intro p j;have:=t p (k p j)
        walk_at "v"
       case J=>intro n g;rfl
       case L=>rw[i];rfl
       case b =>
        obtain⟨c,e,j⟩:=u6 i;subst e;have sz:c.length<=sizeLine:=by rw[a7] at sz;exact sz
        rw[a7] at hl g;have W:fV (.lst (c.map jF))=jv c:=by
         simp only[fV,a7,decide_eq_true hl.1,decide_eq_true hl.2,i,xf,Vx]
        rw[W];show WS _ [.dat (.lst (c.map jF)),.no,.no] _;refine' aj (aH (Z2:=[.dat (.lst (c.map jF)),.own (.lst ((c.map (·.1)).map .str)),.no]) (gZ (enc:=jF) (xs:=c) (fun p=>[.no,.dat (.str p.1),.dat (.lst p.2)]) (fun p=>.str p.1) (dy rfl) rfl sz ?X ?Y ?c6) ?c7 (aq ?c8))
        case X=>intro y o Z hd;rcases hd with rfl|⟨z,rfl⟩<;>rfl
        case Y=>intro p k;rfl
        case c6=>intro p k;rfl
        case c7=>rw[fk];rfl
        case c8 =>
         by_cases hd:(c.map (·.1)).Nodup
         ·refine' fq (cb (au (wR (cs:=c.map (·.1)) (fun x=>x) rfl ?M) (eG rfl rfl) (ne_int _ _))) ?N ?O
          case M=>rw[a7];omega
          case N =>
           simp only[UT,(vp _).mpr hd,a7];simp
          case O =>
           refine' aj (aH (Z2:=[.dat (.lst (c.map jF)),.dat (.lst ((c.map (·.1)).map .str)),.own (.lst ((c.map (·.1)++bZ).map .str))]) (au rfl (ah (aZ (ae rfl ak) rfl) rfl) (qZ ?e1)) ?e2 (aq ?e3))
           case e1=>simp[dk];lia
           case e2=>rw[eW];rfl
           case e3 =>
            refine' aj (cg (v_allB (enc:=jF) (xs:=c) (fun p=>[.no,.dat (.str p.1),.dat (.lst p.2),.dat (.lst ((c.map (·.1)++bZ).map .str))]) (fun p=>hJ p.1 p.2 (c.map (·.1)++bZ)) (dy rfl) rfl sz ?f4 ?f5 ?f6) (fy ?f7))
            case f4=>intro y o Z hd;rcases hd with rfl|⟨z,rfl⟩<;>rfl
            case f6=>intro p k;rfl
            case f7=>unfold jv;rw[decide_eq_true hd,Vx]
            case f5 =>
             intro p hm;have r:=v p.1 p.2 (bg.mpr ⟨p,hm,rfl⟩);have:=U p.1 p.2 (c.map (·.1)++bZ) (sI (j p hm)) r.1 r.2 fun n g=>by
              rcases et.mp g with g|g
              ·obtain⟨q,Q,rfl⟩:=bg.mp g;exact sI (j q Q)
              ·exact rY n g
             walk_at "v"
         ·refine' fE (cb (au (wR (cs:=c.map (·.1)) (fun x=>x) rfl ?M) (eG rfl rfl) (ne_int _ _))) ?N rfl (fy ?O)
          case M=>rw[a7];omega
          case N =>
           have:¬jW (c.map (·.1))=(c.map (·.1)).length:=fun z=>hd ((vp _).mp z)
           simp only[UT,a7] at this ⊢;simp;omega
          case O=>unfold jv;rw[decide_eq_false hd,Cs]
      ·refine' fE (ff (dM (ah (rD (xs:=ds) (fun p=>[.no,.dat p]) di (dy rfl) rfl sz ?G ?I ?J) rfl) rfl)) ?L rfl (fy ?b8)
       case G=>intro y o Z hd;rcases hd with rfl|⟨z,rfl⟩<;>rfl
       case I =>
        intro p j;have:=t p (k p j)
        walk_at "v"
       case J=>intro n g;rfl
       case L=>rw[v3] at i;rw[i];rfl
       case b8=>rw[v3] at i;simp only[fV,i,Ve,Cs]
    ·refine' fE ?a ?C rfl (fy ?D)
     case a=>walk_at "v"
     case C=>simp;lia
     case D =>
      have:(decide (1<=ds.length)&&decide (ds.length<=8))=false:=by
       rw[W8];simpa using hl
      simp only[fV,this,Cs]
def oH(web:aE):Prop:=∀p∈web,∀q∈web,q.1∈p.2->p.1∈q.2
instance (web:aE):Decidable (oH web):=by unfold oH;infer_instance
def Cu(fn:bc):Prop:=∀web:aE,bB web->fn [aX web]=some (.dat (.bl (decide (oH web))))
theorem JN(T:Txt mg){f:dR}{I:hQ}(F:bf K "ties_are_shared" "ties_are_shared" vb f I):∃fn,aO P w K mg base bh 1 f I ["rings"] (aY K fn)/\Cu fn:=by
 refine' df F yz (n:=1) rfl ?B ?D
 case B =>
  intro cdv A outer s H E hr;have nd:=yz.nd;cases T;have fz:ko "rings":=⟨trivial⟩
  walk_at "S"
 case D =>
  clear T F;intro web h;refine' dS rfl ?w
  case w =>
   show WS _ [.dat (aX web),.no,.no] _;refine' aj (gb (fun k Z=>∃t a,Fr t/\Fr a/\(∀p∈web.take k,∀q∈web,q.1∈p.2->p.1∈q.2)/\Z=[.dat (aX web),t,a]) rfl ⟨_,_,.inl rfl,.inl rfl,by simp,rfl⟩ ?st ?J)
   case J =>
    rintro _ ⟨t,a,L,i,hs,rfl⟩;refine aq (aj (cg rfl (fy ?_)));rw[a7,show (cT web).length=web.length from by simp[cT],t9] at hs
    exact (decide_eq_true hs).symm
   case st =>
    rintro k x o _ ⟨t,a,L,i,hs,rfl⟩;unfold cT at o;rw[fk,eo] at o;obtain⟨p,ep,rfl⟩:=j'.mp o;have G:=eR ep;refine⟨[.dat (aX web),.dat (.str p.1),a],by rcases L with rfl|⟨d,rfl⟩<;>rfl,?_⟩
    refine aj (gb (fun j Z=>∃a,Fr a/\(∀n∈p.2.take j,∀q∈web,q.1=n->p.1∈q.2)/\Z=[.dat (aX web),.dat (.str p.1),a]) (dy (kZ rfl rfl (kK h.nd G))) ⟨_,i,by simp,rfl⟩ ?_ ?_)
    ·rintro j y M _ ⟨a,i,r,rfl⟩;rw[eo] at M;obtain⟨n,N,rfl⟩:=j'.mp M;have Q:=eR N;have O:=gK N;refine⟨[.dat (aX web),.dat (.str p.1),.dat (.str n)],by rcases i with rfl|⟨d,rfl⟩<;>rfl,?_⟩
     by_cases u:n∈web.map (·.1)
     ·obtain⟨q,b,rfl⟩:=bg.mp u;have l:=qY web q.1 false;rw[decide_eq_true u] at l;have v:=qx (fun x o=>h.txt ((h.rg q b).2.2 x o).1) (h.txt (.inl (bg.mpr ⟨p,G,rfl⟩))) true
      by_cases B:p.1∈q.2
      ·rw[decide_eq_true B] at v;refine fq (v_and (cb (au rfl rfl l)) (xW rfl (cb (au rfl (kZ rfl rfl (kK h.nd b)) v)))) rfl (bC ⟨_,.inr ⟨_,rfl⟩,?_,rfl⟩);rw[O];intro m hm C c e
       rcases et.mp hm with hm|hm
       ·exact r m hm C c e
       ·cases eP.mp hm;rw[yU h.nd c b e];exact B
      ·rw[decide_eq_false B] at v;refine fE (v_and (cb (au rfl rfl l)) (xW rfl (cb (au rfl (kZ rfl rfl (kK h.nd b)) v)))) rfl rfl ?_;refine fy (decide_eq_false fun z=>B (z p G q b Q)).symm
     ·have l:=qY web n false;rw[decide_eq_false u] at l;refine fq (v_and (cb (au rfl rfl l)) (rf rfl rfl)) rfl (bC ⟨_,.inr ⟨_,rfl⟩,?_,rfl⟩);rw[O];intro m hm C c e
      rcases et.mp hm with hm|hm
      ·exact r m hm C c e
      ·cases eP.mp hm;exact absurd (bg.mpr ⟨C,c,e⟩) u
    ·rintro _ ⟨a,i,r,rfl⟩;rw[a7,t9] at r;refine aq (bC ⟨_,_,.inr ⟨_,rfl⟩,i,?_,rfl⟩);rw[gK ep];intro R g q b hm
     rcases et.mp g with g|g
     ·exact hs R g q b hm
     ·cases eP.mp g;exact r _ hm q b rfl
noncomputable def dg(l:List (List eA))(k:List eA):List (List eA):=if k∈l then l else l++[k]
def cZ(a:List (List eA)):List (List eA):=a.foldl dg []
noncomputable def bq(l:List (List eA)):gu:=l.map (·,.bl true)
theorem Mi(l:List (List eA))(k:List eA):oF (bq l) k (.bl true)=bq (dg l k):=by
 have e:(fu (bq l) k).isSome=decide (k∈l):=by
  dsimp only[fu,bq];rw[n4];simp
 delta oF dg;rw[e]
 by_cases h:k∈l
 ·rw[if_pos (by simpa using h),if_pos h]
  delta bq;rw[fk];refine pA fun x _=>?_
  show (if x=k then (x,Dat.bl true) else (x,Dat.bl true))=_
  split<;>rfl
 ·rw[if_neg (by simpa using h),if_neg h]
  delta bq;simp only[eW];rfl
theorem Ac(l:List (List eA))(k:List eA):cZ (l++[k])=dg (cZ l) k:=by
 delta cZ;rw[Zs];rfl
theorem Bx(l:List (List eA)):(cZ l).length<=l.length:=by
 have:∀(l a:List (List eA)),(l.foldl dg a).length<=a.length+l.length:=by
  intro l;induction l with
  | nil=>intro a;exact eB _
  | cons k l b =>
   intro a;have h:=b (dg a k);have:(dg a k).length<=a.length+1:=by unfold dg;split<;>simp
   simp;show (l.foldl dg (dg a k)).length<=_
   lia
 have:=this l [];simp at this;exact this
theorem E5(l:List (List eA)):(∀k,k∈cZ l ↔ k∈l)/\(cZ l).Nodup:=by
 have:∀(l b:List (List eA)),b.Nodup->(∀k,k∈l.foldl dg b ↔ k∈b\/k∈l)/\(l.foldl dg b).Nodup:=by
  intro l;induction l with
  | nil=>intro b h;exact⟨fun k=>by simp,h⟩
  | cons a l g =>
   intro b h;have i:(dg b a).Nodup:=by
    delta dg;split
    ·exact h
    ·rename_i f;rw[iR];exact⟨h,by simp,fun x j y m e=>f (by rw[eP.mp m] at e;rw[<-e];exact j)⟩
   obtain⟨c,d⟩:=g _ i;refine⟨fun k=>?_,d⟩
   show k∈l.foldl dg (dg b a) ↔ _;rw[c k];delta dg;split
   ·rename_i f
    grind
   ·grind
 obtain⟨c,d⟩:=this l [] z8;exact⟨fun k=>by rw[show cZ l=l.foldl dg [] from rfl,c k];simp,d⟩
theorem FW:∀{l:List (List eA)},l.Nodup->cZ l=l:=by
 have:∀(l b:List (List eA)),(b++l).Nodup->l.foldl dg b=b++l:=by
  intro l;induction l with
  | nil=>intro b h;simp
  | cons a l c =>
   intro b h;have d:a∉b:=fun z=>(iR.mp h).2.2 a z a fv rfl
   show l.foldl dg (dg b a)=_;rw[show dg b a=b++[a] from if_neg d,c _ (by rw[ph];exact h),ph]
   rfl
 intro l h;exact this l [] h
theorem Ab{i:Nat}{a:UF}{f:DF}{Z:DS}{l:List (List eA)}{c:Bool}{k:List eA}(h:f Z=some (.bl true,Z))(d:a Z=some (k,Z))(b:(Z[i]?).bind ownOf=some (false,.aQ c (bq l)))(h3:l.length<1000):qf i a f Z=some (.next (Z.set i (.own (.aQ false (bq (dg l k)))))):=by
 delta qf;simp[h];simp[b];rw[d];show ((Z[i]?).bind ownOf).bind _=_;rw[b];show (if (bq l).length<dk then _ else none)=_
 rw[if_pos (by unfold bq dk;rw[a7];lia),Mi]
 rfl
def aN(web:aE):List (List eA):=web.flatMap fun p=>(dB p.2).map fun q=>[p.1,q.1,q.2]
def si(fn:bc):Prop:=∀web:aE,bB web->fn [aX web]=some (.own (.aQ false (bq (aN web))))
theorem uE{web:aE}(h:∀p∈web,p.2.length<=12):(aN web).length<=12*web.length:=by
 delta aN;induction web with
 | nil=>simp
 | cons p web a =>
  have h1:=a fun q b=>h q (fm _ b)
  have h2:=h p fv;simp only[W6,eH,a7,Ck,f']
  lia
theorem oE{web:aE}(nd:(web.map (·.1)).Nodup):aN web=(corners (web.map (·.1)) (eE web)).map fun c=>[c.1,c.2.1,c.2.2]:=by
 delta aN corners;rw[List.map_flatMap,List.flatMap_map];refine congrArg _ (pA fun p a=>?_)
 simp only[dz nd a,fk];rfl
theorem OW{web:aE}(h:bB web):(aN web).Nodup:=by
 unfold aN;refine List.pairwise_flatMap.mpr ⟨fun p c=>?_,?_⟩
 ·have nd:=(h.rg p c).2.1;rw[<-ue p.2] at nd;refine gj.mpr ((gj.mp nd).imp fun {a b} n e=>n ?_)
  simp only[UW,and_true] at e;exact e.2.1
 ·refine (gj.mp h.nd).imp fun {a b} n x d y f e=>n ?_
  obtain⟨_,_,rfl⟩:=bg.mp d;obtain⟨_,_,rfl⟩:=bg.mp f;simp only[UW,and_true] at e;exact e.1
theorem Hk{i:Nat}{Z:DS}{a:List eA}(h:Z[i]?=some (.dat (.lst (a.map .str))))(hz:a.length<=100):rF (dJ (cC i) (dJ (dG (cw fK (dG (j7 (cC i) (kX (fC (.int 1))) nZ)) (dG (j7 (cC i) nZ (kX (fC (.int 1))))))) fO)) Z=some ((dB a).map fun q=>.tup [.str q.1,.str q.2],Z):=by
 have b:cC i Z=some (.lst (a.map .str),Z):=by unfold cC;rw[h]
 have c:=Qk a 1;have d:=AK a 1;delta rF;rw[ae b (ae (ah (au (ah (tI b rfl c) rfl) (ah (nB b rfl d) rfl) (qZ (by unfold dk;simp;omega))) rfl) ak)]
 show some (mS (a.map .str) ((a.drop 1).map .str++(a.take 1).map .str),Z)=_;delta mS dB;rw[<-eW,List.zip_map,fk];rfl
theorem PB(T:Txt mg)(r:mg "zip"=none){f:dR}{u:hQ}(F:bf K "corners_of" "corners_of" xt f u):∃fn,aO P w K mg base bh 1 f u ["rings"] (aY K fn)/\si fn:=by
 refine' df F AM rfl ?J ?B
 case J =>
  intro cdv A outer s H E hr;cases T;have fz:ko "rings":=⟨trivial⟩;have tp:lU "corners":=⟨trivial⟩
  walk_at "S"
 case B =>
  intro web h;have hl:∀p∈web,p.2.length<=12:=fun p m=>h.len m
  have bT:=h.bT;refine' dS rfl ?w
  case w =>
   refine' aj (aH rfl rfl (aq ?_));refine' aj (gb (fun k Z=>∃o l c e,Fr o/\Fr l/\Fr c/\Fr e/\Z=[.dat (aX web),.own (.aQ false (bq (cZ (aN (web.take k))))),o,l,c,e]) rfl ⟨_,_,_,_,.inl rfl,.inl rfl,.inl rfl,.inl rfl,rfl⟩ ?st ?C)
   case C =>
    rintro _ ⟨o,l,c,e,v,z,g,i,rfl⟩;simp only[a7,show (cT web).length=web.length from a7 ..,t9,FW (OW h)]
    exact aq (aj (cg rfl ⟨_,rfl⟩))
   case st =>
    rintro k x t _ ⟨o,l,c,e,v,z,g,i,rfl⟩;unfold cT at t;rw[fk,eo] at t;obtain⟨p,ep,rfl⟩:=j'.mp t;have m:=eR ep;have hlp:=hl p m;have hk:=(bt.mp ep).1;have r:=uE (web:=web.take k) fun q M=>hl q (YH M)
    rw[l5] at r;refine⟨[.dat (aX web),.own (.aQ false (bq (cZ (aN (web.take k))))),.dat (.str p.1),l,c,e],by rcases v with rfl|⟨d,rfl⟩<;>rfl,?_⟩
    refine' aj (aH (Z2:=[.dat (aX web),.own (.aQ false (bq (cZ (aN (web.take k))))),.dat (.str p.1),.dat (.lst (p.2.map .str)),c,e]) (v_res (kZ rfl rfl (kK h.nd m))) ?a (aq ?b))
    case a=>rcases z with rfl|⟨d,rfl⟩<;>rfl
    case b =>
     refine aj (gb (fun j Z=>∃c e,Fr c/\Fr e/\Z=[.dat (aX web),.own (.aQ false (bq (cZ (aN (web.take k)++((dB p.2).take j).map fun q=>[p.1,q.1,q.2])))),.dat (.str p.1),.dat (.lst (p.2.map .str)),c,e]) (Hk rfl (by lia)) ⟨_,_,g,i,by simp only[XT,VL,r4]⟩ ?_ ?_)
     ·rintro j y D _ ⟨c,e,g,i,rfl⟩;rw[eo] at D;obtain⟨q,eq,rfl⟩:=j'.mp D;generalize G:cZ (aN (web.take k)++((dB p.2).take j).map fun q=>[p.1,q.1,q.2])=L
      have I:L.length<1000:=by
       rw[<-G];refine U5 (Bx _) ?_;simp only[eH,a7,l5,Ck]
       lia
      refine⟨[.dat (aX web),.own (.aQ false (bq L)),.dat (.str p.1),.dat (.lst (p.2.map .str)),.dat (.str q.1),.dat (.str q.2)],by rcases g with rfl|⟨d,rfl⟩<;>rcases i with rfl|⟨d,rfl⟩<;>rfl,?_⟩
      refine aj ⟨_,Ab (k:=[p.1,q.1,q.2]) rfl rfl rfl I,aq (bC ⟨.dat (.str q.1),.dat (.str q.2),.inr ⟨_,rfl⟩,.inr ⟨_,rfl⟩,?_⟩)⟩;rw[gK eq,eW,<-ph];show _=[_,Slot.own (.aQ false (bq (cZ (_++[_])))),_,_,_,_];rw[Ac,G];rfl
     ·rintro _ ⟨c,e,g,i,rfl⟩;refine aq (bC ⟨.dat (.str p.1),.dat (.lst (p.2.map .str)),c,e,.inr ⟨_,rfl⟩,.inr ⟨_,rfl⟩,g,i,?_⟩);rw[gK ep,show aN (web.take k++[p])=aN (web.take k)++(dB p.2).map fun q=>[p.1,q.1,q.2] from by unfold aN;simp,a7,t9]
theorem JK(l:List (List eA))(k:List eA):(fu (bq l) k).isSome=decide (k∈l):=by
 delta fu bq;rw[n4];simp
theorem pw{neg b:Bool}{i:Nat}{a:UF}{Z:DS}{k:List eA}{l:List (List eA)}(h:a Z=some (k,Z))(c:(Z[i]?).bind iu=some (.aQ b (bq l))):lG neg i a Z=some (.dat (.bl (if neg then !decide (k∈l) else decide (k∈l))),Z):=by
 delta lG;rw[h];show ((Z[i]?).bind iu).bind _=_;rw[c,<-JK];rfl
theorem jO(n:eA):bS n=true ↔ n∈bZ:=by
 simp[bS,bZ,ay,or_assoc]
theorem oG{k:Nat}(h:k<4):ay k∈bZ:=by
 have:k=0\/k=1\/k=2\/k=3:=by lia
 rcases this with rfl|rfl|rfl|rfl<;>simp[bZ]
theorem sf{n:eA}(h:n∈bZ):∃k,k<4/\n=ay k:=by
 simp[bZ] at h
 rcases h with rfl|rfl|rfl|rfl
 ·exact⟨0,by decide,rfl⟩
 ·exact⟨1,by decide,rfl⟩
 ·exact⟨2,by decide,rfl⟩
 ·exact⟨3,by decide,rfl⟩
noncomputable def xy(n:eA):Str:=if n="north" then "east" else if n="east" then "south" else if n="south" then "west" else "north"
theorem AJ{k:Nat}(h:k<4):xy (ay k)=ay ((k+1)%4):=by
 have:k=0\/k=1\/k=2\/k=3:=by lia
 rcases this with rfl|rfl|rfl|rfl<;>decide +kernel
def iI(cs:List (List eA))(x n m:eA):Bool:=if (bS n&&bS m)=true then decide (m=xy n) else (bS n||decide ([n,m,x]∈cs))&&(bS m||decide ([m,x,n]∈cs))
def nz(cs:List (List eA)):List eA->Bool
 | [x,n,m]=>iI cs x n m
 | _=>true
def BL(fn:bc):Prop:=∀(cs:List (List eA)) (x n m:eA),aP x->aP n->aP m->fn [.tup [.str x,.str n,.str m],.aQ true (bq cs)]=some (.dat (.bl (iI cs x n m)))
theorem Pk(T:Txt mg)(w1:fY K mg "WALLS" m9){d:bc}(o:bj P w K mg base "follower" 1 (aY K d))(p:uu d){f:dR}{j:hQ}(F:bf K "corner_closes" "corner_closes" wU f j):∃fn,aO P w K mg base bh 2 f j ["corner","corners"] (aY K fn)/\BL fn:=by
 refine' df F DJ (n:=2) rfl ?C ?B
 case C =>
  intro cdv A outer s H E hr;have nd:=DJ.nd;cases T
  walk_at "S"
 case B =>
  clear T F o;intro cs x n m tx g i;refine' dS rfl ?w
  case w =>
   show WS _ [.dat (.tup [.str x,.str n,.str m]),.dat (.aQ true (bq cs)),.no,.no,.no] _;refine' aj (aH rfl rfl (aq (aj (aH rfl rfl (aq (aj (aH rfl rfl (aq ?_))))))));show WS _ [.dat (.tup [.str x,.str n,.str m]),.dat (.aQ true (bq cs)),.dat (.str x),.dat (.str n),.dat (.str m)] _;refine aj (gy (su (cb (au rfl rfl (lA g.ok false))) (cb (au rfl rfl (lA i.ok false)))) (fun h=>?_) fun h=>bC (aq ?_))
   ·have h:(bS n&&bS m)=true:=h;have h':=h;simp only[ee,jO] at h;obtain⟨k,l,rfl⟩:=sf h.1;have e:=p k l;refine aj (cg (au rfl (ah (aZ (ae rfl ak) e) rfl) (x6 i.ok (rY _ (oG (W1 _ (by decide)))).ok)) (fy ?_))
    unfold iI;rw[if_pos h',AJ l]
   ·have h:(bS n&&bS m)=false:=h;have q:iI cs x n m=((bS n||decide ([n,m,x]∈cs))&&(bS m||decide ([m,x,n]∈cs))):=by unfold iI;rw[h];rfl
    rw[q]
    by_cases c:(bS n||decide ([n,m,x]∈cs))=true
    ·refine' fq (su (cb (au rfl rfl (lA g.ok true))) (cb (pw (k:=[n,m,x]) rfl rfl))) ?a ?b
     case a =>
      simp only[if_true];revert c;cases bS n<;>cases decide ([n,m,x]∈cs)<;>decide
     case b =>
      refine aj (cg (v_res (yq (ah (au rfl rfl (lA i.ok false)) rfl) (ah (pw (k:=[m,x,n]) rfl rfl) rfl))) (fy ?_));rw[c];rfl
    ·refine' fE (su (cb (au rfl rfl (lA g.ok true))) (cb (pw (k:=[n,m,x]) rfl rfl))) ?a rfl (fy ?b)
     case a =>
      simp only[if_true];revert c;cases bS n<;>cases decide ([n,m,x]∈cs)<;>decide
     case b=>rw[v3] at c;rw[c];rfl
def Bo(fn:bc):Prop:=∀web:aE,bB web->fn [aX web]=some (.dat (.bl ((aN web).all (nz (aN web)))))
theorem iQ{web:aE}(h:bB web){x n m:eA}:[x,n,m]∈aN web ↔ x∈web.map (·.1)/\a8 (eE web x) n m:=by
 rw[oE h.nd,<-fh,bg];constructor
 ·rintro⟨⟨a,b,c⟩,d,e⟩;simp at e;simp only[<-e.1,<-e.2.1,<-e.2.2];exact d
 ·exact fun d=>⟨_,d,rfl⟩
theorem Ms{web:aE}(h:bB web){x z:eA}(c:x∈web.map (·.1))(a:z∈eE web x):aP z:=by
 obtain⟨p,b,rfl⟩:=bg.mp c;rw[dz h.nd b] at a;exact h.txt ((h.rg p b).2.2 z a).1
theorem K8(T:Txt mg){i j:bc}(t:bj P w K mg base "corners_of" 1 (aY K i))(u:si i)(v:bj P w K mg base "corner_closes" 2 (aY K j))(C:BL j){f:dR}{o:hQ}(F:bf K "corners_close" "corners_close" ym f o):∃fn,aO P w K mg base bh 3 f o ["rings"] (aY K fn)/\Bo fn:=by
 refine' df F Dj rfl ?D ?B
 case D =>
  intro cdv A outer s H E hr;have nd:=Dj.nd;cases T;have tp:lU "corners":=⟨trivial⟩
  walk_at "S"
 case B =>
  intro web h;have G:=u web h;have hl:=uE fun p I=>h.len I
  have bT:=h.bT;refine' dS rfl ?w
  case w =>
   refine' aj (aH (aZ (ae rfl ak) G) rfl (aq ?_));refine' aj (cg (v_allB (xs:=aN web) (fun k=>[.no,.dat (.tup (k.map .str)),.dat (.aQ true (bq (aN web)))]) (nz (aN web)) (Z1:=[.dat (aX web),.dat (.aQ true (bq (aN web)))]) ?a rfl ?b ?c ?d ?e) ⟨_,rfl⟩)
   case a =>
    show some (jx (bq (aN web)),_)=_;dsimp only[jx,bq];rw[fk];rfl
   case b=>unfold dk;lia
   case c=>intro y g Z hd;rcases hd with rfl|⟨z,rfl⟩<;>rfl
   case e=>intro y g;rfl
   case d =>
    intro y g;have l:=g;rw[oE h.nd] at l;obtain⟨⟨x,n,m⟩,_,rfl⟩:=bg.mp l;obtain⟨q,r⟩:=(iQ h).mp g;have tx:∀z∈eE web x,aP z:=fun z J=>Ms h q J
    exact ah (aZ (ae rfl (ae rfl ak)) (C (aN web) x n m (h.txt (.inl q)) (tx n r.mem.1) (tx m r.mem.2))) rfl
theorem Oc{l:List eA}(nd:l.Nodup){n z f:eA}(h:a8 l n z)(h':a8 l n f):z=f:=by
 obtain⟨i,a,b⟩:=h;obtain⟨j,c,d⟩:=h';obtain⟨hi,g⟩:=bt.mp a;obtain⟨hj,k⟩:=bt.mp c;have e:i=j:=(um nd).mp (g.trans k.symm);subst e;rw[b] at d;exact Option.some.inj d
theorem Pf{l:List eA}{n:eA}(h:n∈l):∃p,a8 l p n:=by
 obtain⟨i,a,e⟩:=qt h
 by_cases b:i=0
 ·subst b;refine⟨l[l.length-1],l.length-1,cA (by omega),?_⟩
  rw[show (l.length-1+1)%l.length=0 from by rw[show l.length-1+1=l.length from by omega,UZ],cA a,e]
 ·refine⟨l[i-1],i-1,cA (by omega),?_⟩
  rw[show (i-1+1)%l.length=i from by rw[show i-1+1=i from by omega,qp a],cA a,e]
theorem bB.xV{web:aE}(h:bB web){x:eA}(a:x∈web.map (·.1)):bS x=false:=by
 obtain⟨p,b,rfl⟩:=bg.mp a;have:=h.nm p b;unfold cF at this;simp only[ee,pl] at this;exact this.2
theorem N0{web:aE}(h:bB web)(e:(aN web).all (nz (aN web))=true){k:Nat}(hk:k<4){x:eA}(g:[x,ay k,ay ((k+1)%4)]∈aN web) :
  ∃l,Row (web.map (·.1)) (eE web) (ay k) x l/\l.Nodup/\∀y∈l,y∈web.map (·.1):=by
 have i:∀y∈web.map (·.1),(eE web y).Nodup:=fun y c=>by
  obtain⟨p,d,rfl⟩:=bg.mp c;rw[dz h.nd d];exact (h.rg p d).2.1
 have m:∀j,j<4->ay j∉web.map (·.1):=fun j n hm=>by
  have:=h.xV hm;rw[(jO _).mpr (oG n)] at this;cases this
 obtain⟨l,r,o,q⟩:=G9 (rooms:=web.map (·.1)) (ring:=eE web) (wl:=ay k) (f:=ay ((k+1)%4)) (m _ (W1 _ (by decide))) (fun y c z z' a b=>Oc (i y c) a b) (fun y c ⟨z,sz⟩=>by
  obtain⟨p,sp⟩:=Pf sz.mem.1;refine⟨p,sp,fun d=>?_⟩
  have hm:=(iQ h).mpr ⟨c,sp⟩;have:=ia.mp e _ hm;have:iI (aN web) y p (ay k)=true:=this;unfold iI at this;rw[h.xV d] at this;simp only[Cs,qh,if_false,Ya,ee,decide_eq_true_eq] at this;exact ((iQ h).mp this.1).2) ((web.map (·.1)).length+1) 0 x [] (by simp) z8 (by simp) (fun _=>.z ((iQ h).mp g).2)
 exact⟨l,r,o,fun y c=>(q y c).1⟩
theorem JT{a:List eA}(nd:a.Nodup){p wl:eA}(s:a8 a p wl):∃j,a.findIdx? (fun x=>decide (x=wl))=some j/\cu (.lst (a.map .str)) (.int ((j:Int)-1))=some (.str p):=by
 obtain⟨i,b,c⟩:=s;have hi:=(bt.mp b).1;obtain⟨d,e⟩:=bt.mp c;refine⟨(i+1)%a.length,U9.mpr ⟨d,by simpa using e,fun k hk=>?_⟩,?_⟩
 ·intro z;have:=pF nd (i:=k) (bt.mpr ⟨by lia,by simpa using z⟩) c
  lia
 ·simp only[mP];delta eZ;have:fJ (a.map Dat.str).length (((i+1)%a.length:Nat)-1:Int)=some i:=by
   rw[a7];delta fJ
   by_cases hl:i+1<a.length
   ·rw[qp hl,if_pos (by lia),if_pos (by lia)]
    congr 1
    lia
   ·have:i+1=a.length:=by lia
    rw[this,UZ,if_neg (by omega),if_pos (by omega)]
    congr 1;omega
  simp only[this,hH,eo,b];rfl
theorem zY{c:BF}{fb:SF}{Z Z1:DS}{Q:Out->Prop}{n:Nat}(h:c Z=some (false,Z1))(q:Q (.next Z1)):WS (gw c fb (n+1)) Z Q:=by
 refine⟨_,?_,q⟩;show (c Z).bind _=_;rw[h];rfl
theorem AN{c:BF}{fb:SF}{Z Z1 Z2:DS}{Q:Out->Prop}{n:Nat}(h:c Z=some (true,Z1))(a:fb Z1=some (.next Z2))(q:WS (gw c fb n) Z2 Q):WS (gw c fb (n+1)) Z Q:=by
 obtain⟨o,e,q⟩:=q;refine⟨o,?_,q⟩;show (c Z).bind _=_;rw[h];show (fb Z1).bind _=_;rw[a];exact e
theorem KO{c:BF}{fb:SF}{rooms:List eA}{ring:eA->List eA}{wl:eA}{Q:Out->Prop}(D:List eA->eA->Slot->DS)(stop:∀d a t,a∉rooms->c (D d a t)=some (false,D d a t))
 (go:∀d a p t,Fr t->a∈rooms->a8 (ring a) p wl->d.length<500->c (D d a t)=some (true,D d a t)/\∃t',Fr t'/\fb (D d a t)=some (.next (D (d++[a]) p t'))){a:eA}{l:List eA}(r:Row rooms ring wl a l) :
  ∀(d:List eA) (t:Slot) (n:Nat),Fr t->l.length<n->d.length+l.length<500->(∀e t',Q (.next (D (d++l) e t')))->WS (gw c fb n) (D d a t) Q:=by
 induction r with
 | @stop b h =>
  intro d t n g f _ q;obtain⟨n,rfl⟩:∃m,n=m+1:=⟨n-1,by simp at f;omega⟩
  refine zY (stop d _ t h) ?_;have:=q b t;rw[r4] at this;exact this
 | @go a p l h s _ j =>
  intro d t n g f hl q;simp at f hl;obtain⟨n,rfl⟩:∃m,n=m+1:=⟨n-1,by omega⟩
  obtain⟨k,t',o,u⟩:=go d a p t g h s (by omega)
  refine AN k u (j _ _ _ o (by lia) (by simp only[eH,UL];omega) fun e i=>?_)
  rw[ph];exact q e i
def AA(fn:bc):Prop:=∀(web:aE) (wl a:eA) (l:List eA),bB web->aP wl->Row (web.map (·.1)) (eE web) wl a l->l.length<100->fn [aX web,.str wl,.str a]=some (.own (.lst (l.map .str)))
theorem Ox(T:Txt mg){f:dR}{i:hQ}(F:bf K "row_along" "row_along" uC f i):∃fn,aO P w K mg base bh 1 f i ["rings","wall","first"] (aY K fn)/\AA fn:=by
 refine' df F C7 rfl ?B ?C
 case B =>
  intro cdv A outer s H E hr;cases T;have fz:ko "rings":=⟨trivial⟩
  walk_at "S"
 case C =>
  intro web wl a l h k r hl;refine' dS rfl ?w
  case w =>
   refine' aj (aH (bL ak (ro _)) rfl (aq (aj (aH rfl rfl (aq ?_)))));refine' aj (KO (fun c b t=>[.dat (aX web),.dat (.str wl),.dat (.str a),.own (.lst (c.map .str)),.dat (.str b),t]) ?stop ?go r [] .no ow (.inl rfl) ?n ?m ?q)
   case n=>unfold ow;omega
   case m=>simp only[UE];omega
   case q=>exact fun a' t'=>aq (aj (cg rfl ⟨_,rfl⟩))
   case stop =>
    intro c b t B;have e:=qY web b false;rw[decide_eq_false B] at e;exact cb (au rfl rfl e)
   case go =>
    intro c b p t u B o ha;have e:=qY web b false;rw[decide_eq_true B] at e;obtain⟨x,g,rfl⟩:=bg.mp B;rw[dz h.nd g] at o;have tr:∀z∈x.2,aP z:=fun z v=>h.txt ((h.rg x g).2.2 z v).1
    obtain⟨j,y,D⟩:=JT (h.rg x g).2.1 o;refine⟨cb (au rfl rfl e),.dat (.lst (x.2.map .str)),.inr ⟨_,rfl⟩,?_⟩;refine rC (tQ (mH rfl rfl (by unfold dk;rw[a7];omega))) (rR (rC (pf (Z2:=[.dat (aX web),.dat (.str wl),.dat (.str a),.own (.lst ((c++[x.1]).map .str)),.dat (.str x.1),.dat (.lst (x.2.map .str))]) (v_res (kZ rfl rfl (kK h.nd g))) ?_) (rR (rC (pf (v_res (bA rfl (ah (au (KY rfl (ae rfl ak) (rA tr) (ju k.ok) ((Pt tr k).trans y)) rfl (qQ rfl)) rfl) rfl D)) rfl) (rR rfl)))))
    rw[eW]
    rcases u with rfl|⟨d,rfl⟩<;>rfl
theorem By{web:aE}(nd:(web.map (·.1)).Nodup)(keep:eA×List eA->Bool):((web.filter keep).map (·.1)).Nodup:=mu (List.Sublist.map _ ri) nd
theorem CK{l a:List eA}(p:l.Perm a):br l=br a:=pC ((hA _ _).trans p) (yG l)
theorem wH{l:List eA}(h:l.length<64):lK [.lst (l.map .str)]=some (.own (.lst ((br l).map .str))):=by
 show (match dv (l.map .str) with
  | some a=>if a.length<64 then some (Res.own (.lst ((br a).map .str))) else none
  | none=>mL [.lst (l.map .str)])=_
 have:=qA (fun x:eA=>x) l
 rw[UT] at this;rw[this];exact if_pos h
theorem OY{rooms:List eA}{ring:eA->List eA}{wl a:eA}{l:List eA}(nd:∀y∈rooms,(ring y).Nodup)(r:Row rooms ring wl a l):∀{b},Row rooms ring wl a b->l=b:=by
 induction r with
 | stop h =>
  intro b c;cases c with
  | stop _=>rfl
  | go h' _ _=>exact absurd h' h
 | @go a p l h s _ k =>
  intro b c;cases c with
  | stop h'=>exact absurd h h'
  | @go _ m b h' s' c =>
   have e:p=m:=by
    obtain⟨i,a1,o⟩:=s;obtain⟨j,q,t⟩:=s';have n:=nd _ h;obtain⟨hi,u⟩:=bt.mp a1;obtain⟨hj,v⟩:=bt.mp q;obtain⟨hi',d⟩:=bt.mp o;obtain⟨hj',f⟩:=bt.mp t;have e:(i+1)%(ring a).length=(j+1)%(ring a).length:=(um n).mp (d.trans f.symm);have:i=j:=by
     by_cases x:i+1=(ring a).length
     ·by_cases g:j+1=(ring a).length
      ·omega
      ·rw[x,UZ,qp (by omega)] at e
       omega
     ·by_cases g:j+1=(ring a).length
      ·rw[g,UZ,qp (by omega)] at e
       omega
      ·rw[qp (by omega),qp (by omega)] at e
       omega
    subst this;exact u.symm.trans v
   subst e;rw[k c]
theorem AB:∀a b:List eA,jr (a.map Dat.str) (b.map Dat.str)=decide (a=b)
 | [],[]=>rfl
 | [],_::_=>by simp[jr]
 | _::_,[]=>by simp[jr]
 | x::a,y::b=>by
  show (dw (.str x) (.str y)&&jr (a.map Dat.str) (b.map Dat.str))=_;rw[kA,AB a b,n4];simp
def gH(web:aE)(k:Nat):List Str:=(web.filter fun p=>decide ([p.1,ay k,ay ((k+1)%4)]∈aN web)).map (·.1)
def kJ(web:aE)(k:Nat):List Str:=(web.filter fun p=>decide (ay k∈p.2)).map (·.1)
def oD(web:aE)(k:Nat):Prop:=∃x l,gH web k=[x]/\Row (web.map (·.1)) (eE web) (ay k) x l/\l.Perm (kJ web k)
def Dg(fn:bc):Prop:=∀(web:aE) (k:Nat),k<4->bB web->(aN web).all (nz (aN web))=true->∃b,fn [aX web,.str (ay k)]=some (.dat (.bl b))/\(b=true ↔ oD web k)
theorem O2(T:Txt mg){i j m:bc}(U:bj P w K mg base "corners_of" 1 (aY K i))(v:si i)(V:bj P w K mg base "follower" 1 (aY K j))(W:uu j)(X:bj P w K mg base "row_along" 1 (aY K m))(s3:AA m){f:dR}{M:hQ}(F:bf K "wall_has_row" "wall_has_row" u9 f M):∃fn,aO P w K mg base bh 2 f M ["rings","wall"] (aY K fn)/\Dg fn:=by
 refine' df F y8 (n:=2) rfl ?Y ?B
 case Y =>
  intro cdv A outer s H E hr;have nd:=y8.nd;cases T;have fz:ko "rings":=⟨trivial⟩
  walk_at "S"
 case B =>
  clear T F U V X;intro web k r h hc;have bT:=h.bT;have sz:web.length<=sizeLine:=by unfold dk;lia
  have N:aP (ay k):=rY _ (oG r);have O:=W k r;have t:(cT web).map (fun k=>Dat.str k.1)=web.map fun p=>Dat.str p.1:=by unfold cT;rw[fk];rfl
  have fl:(gH web k).length<=8:=by unfold gH;rw[a7];exact sq (vv ..) bT.2
  have tl8:(kJ web k).length<=8:=by unfold kJ;rw[a7];exact sq (vv ..) bT.2
  have tr:∀p∈web,∀z∈p.2,aP z:=fun p a z d=>h.txt ((h.rg p a).2.2 z d).1
  have ev:∀(b:Bool) (Q:Out->Prop),True:=fun _ _=>trivial
  by_cases c:∃x,gH web k=[x]
  ·obtain⟨x,c⟩:=c;have hx:[x,ay k,ay ((k+1)%4)]∈aN web:=by
    have:x∈gH web k:=by rw[c];simp
    unfold gH at this;obtain⟨p,a,rfl⟩:=bg.mp this;exact of_decide_eq_true (gf.mp a).2
   obtain⟨l,u,r3,R⟩:=N0 h hc r hx;have hll:l.length<=8:=sq (xA r3 R) (by rw[a7];lia)
   refine⟨decide (br l=br (kJ web k)),?_,?_⟩
   ·refine' dS rfl ?w
    case w =>
     show WS _ [.dat (aX web),.dat (.str (ay k)),.no,.no,.no] _;refine' aj (aH (aZ (ae rfl ak) (v web h)) rfl (aq ?_));show WS _ [.dat (aX web),.dat (.str (ay k)),.own (.aQ false (bq (aN web))),.no,.no] _;refine' aj (aH (Z2:=[.dat (aX web),.dat (.str (ay k)),.dat (.aQ false (bq (aN web))),.own (.lst ([x].map .str)),.no]) (oW (enc:=fun p:eA×List eA=>.str p.1) (xs:=web) (fun p=>[.no,.dat (.str p.1),.dat (.aQ false (bq (aN web))),.dat (.str (ay k))]) (fun p=>decide ([p.1,ay k,ay ((k+1)%4)]∈aN web)) (fun p=>.str p.1) ?a1 rfl sz ?C ?D ?G ?I) ?J (aq ?L))
     case a1=>show some ((cT web).map fun k=>Dat.str k.1,_)=_;rw[t]
     case C=>intro y g Z hd;rcases hd with rfl|⟨z,rfl⟩<;>rfl
     case D =>
      intro p a;refine cb (pw (k:=[p.1,ay k,ay ((k+1)%4)]) ?_ rfl);unfold qO;rw[ae rfl (ae rfl (ae (ah (aZ (ae rfl ak) O) rfl) ak))];rfl
     case G=>intro p a _;rfl
     case I=>intro p a;rfl
     case J=>rw[<-c];unfold gH;rw[fk];rfl
     case L =>
      refine' fq (cb (au (eG rfl rfl) rfl (ne_int _ _))) rfl ?zz
      case zz =>
       refine' aj (aH (Z2:=[.dat (aX web),.dat (.str (ay k)),.dat (.aQ false (bq (aN web))),.own (.lst ([x].map .str)),.own (.lst ((kJ web k).map .str))]) (oW (enc:=fun p:eA×List eA=>.str p.1) (xs:=web) (fun p=>[.no,.dat (.str p.1),.dat (aX web),.dat (.str (ay k))]) (fun p=>decide (ay k∈p.2)) (fun p=>.str p.1) ?b1 rfl sz ?b2 ?b3 ?b4 ?b5) ?b6 (aq ?b7))
       case b1=>show some ((cT web).map fun k=>Dat.str k.1,_)=_;rw[t]
       case b2=>intro y g Z hd;rcases hd with rfl|⟨z,rfl⟩<;>rfl
       case b3=>intro p a;exact cb (au rfl (kZ rfl rfl (kK h.nd a)) (qx (tr p a) N false))
       case b4=>intro p a _;rfl
       case b5=>intro p a;rfl
       case b6=>unfold kJ;rw[fk];rfl
       case b7 =>
        have tl:∀z∈br l,aP z:=fun z d=>h.txt (.inl (R z ((hA _ _).mem_iff.mp d)))
        have tt:∀z∈br (kJ web k),aP z:=fun z d=>by
         have:=(hA _ _).mem_iff.mp d;unfold kJ at this;obtain⟨p,a,rfl⟩:=bg.mp this;exact h.txt (.inl (bg.mpr ⟨p,(gf.mp a).1,rfl⟩))
        refine aj (cg (au (ah (aZ (ae (ah (aZ (ae rfl (ae rfl (ae (bA rfl rfl rfl rfl) ak))) (s3 web (ay k) x l h N u (by omega))) rfl) ak) (wH (by omega))) rfl) (ah (aZ (ae rfl ak) (wH (by omega))) rfl) (v_eq (rA tl) (rA tt))) (fy ?_))
        show dw (.lst _) (.lst _)=_;rw[wK,AB]
   ·rw[decide_eq_true_iff];constructor
    ·intro e;exact⟨x,l,c,u,((hA _ _).symm.trans (by show (br l).Perm _;rw[e];exact hA _ _))⟩
    ·rintro⟨x',l',o,r',p⟩;rw[c] at o;cases o;have e:=OY (fun y g=>by
      obtain⟨q,S,rfl⟩:=bg.mp g;rw[dz h.nd S];exact (h.rg q S).2.1) u r'
     rw[e];exact CK p
  ·refine⟨false,?_,fun z=>(by cases z),fun ⟨x,_,z,_⟩=>absurd ⟨x,z⟩ c⟩
   refine' dS rfl ?w
   case w =>
    show WS _ [.dat (aX web),.dat (.str (ay k)),.no,.no,.no] _;refine' aj (aH (aZ (ae rfl ak) (v web h)) rfl (aq ?_));show WS _ [.dat (aX web),.dat (.str (ay k)),.own (.aQ false (bq (aN web))),.no,.no] _;refine' aj (aH (Z2:=[.dat (aX web),.dat (.str (ay k)),.dat (.aQ false (bq (aN web))),.own (.lst ((gH web k).map .str)),.no]) (oW (enc:=fun p:eA×List eA=>.str p.1) (xs:=web) (fun p=>[.no,.dat (.str p.1),.dat (.aQ false (bq (aN web))),.dat (.str (ay k))]) (fun p=>decide ([p.1,ay k,ay ((k+1)%4)]∈aN web)) (fun p=>.str p.1) ?a1 rfl sz ?C ?D ?G ?I) ?J (aq ?L))
    case a1=>show some ((cT web).map fun k=>Dat.str k.1,_)=_;rw[t]
    case C=>intro y g Z hd;rcases hd with rfl|⟨z,rfl⟩<;>rfl
    case D =>
     intro p a;refine cb (pw (k:=[p.1,ay k,ay ((k+1)%4)]) ?_ rfl);unfold qO;rw[ae rfl (ae rfl (ae (ah (aZ (ae rfl ak) O) rfl) ak))];rfl
    case G=>intro p a _;rfl
    case I=>intro p a;rfl
    case J=>unfold gH;rw[fk];rfl
    case L =>
     refine' fE (cb (au (eG rfl rfl) rfl (ne_int _ _))) ?z1 rfl ⟨_,rfl⟩
     case z1 =>
      have:(gH web k).length≠1:=fun z=>c (Yj.mp z)
      simp only[a7];simp;omega
def Bc(fn:bc):Prop:=∀ring names:List eA,(∀n∈ring,aP n)->(∀n∈names,aP n)->ring.length<=100->fn [.lst (ring.map .str),.lst (names.map .str)]=some (.dat (.bl (ring.any fun y=>decide (y∈names))))
theorem QC(T:Txt mg)(h:mg "any"=none){f:dR}{e:hQ}(F:bf K "has_one_of" "has_one_of" wA f e):∃fn,aO P w K mg base bh 1 f e ["ring","names"] (aY K fn)/\Bc fn:=by
 refine' df F BS rfl ?C ?B
 case C =>
  intro cdv A outer s H E hr;have nd:=BS.nd;cases T
  walk_at "S"
 case B =>
  intro ring names i j hl;refine' dS rfl ?w
  case w =>
   refine' aj (cg (aZ (ae (ah (gZ (fun n=>[.no,.dat (.str n),.dat (.lst (names.map .str))]) (fun n=>.bl (decide (n∈names))) (dy rfl) rfl ?a ?b ?c ?d) rfl) ak) (PR (fun n=>decide (n∈names)) ring)) ⟨_,rfl⟩)
   case a=>unfold dk;lia
   case b=>intro y hy Z hd;rcases hd with rfl|⟨z,rfl⟩<;>rfl
   case c=>intro n g;exact ah (au rfl rfl (qx j (i n g) false)) rfl
   case d=>intro n g;rfl
theorem N4(n:Nat):(dn 0 (n:Int)).length=n:=by simp[dn]
abbrev iK(web:aE):Nat->List Str:=reach (web.map (·.1)) bZ (eE web)
theorem O1{web:aE}(nd:(web.map (·.1)).Nodup)(k:Nat):iK web (k+1)=bZ++(web.filter fun p=>p.2.any fun y=>decide (y∈iK web k)).map (·.1):=by
 show bZ++(web.map (·.1)).filter _=_;rw[ZO];congr 2;refine V0 fun p a=>?_
 show (eE web p.1).any _=_;rw[dz nd a]
theorem EE{web:aE}{k:Nat}{n:eA}(h:n∈iK web k):n∈web.map (·.1)\/n∈bZ:=by
 cases k with
 | zero=>exact .inr h
 | succ k =>
  rcases et.mp h with h|h
  ·exact .inr h
  ·exact .inl (gf.mp h).1
def A9(fn:bc):Prop:=∀web:aE,bB web->fn [aX web]=some (.dat (.bl (web.all fun p=>decide (p.1∈iK web web.length))))
theorem Ge(T:Txt mg)(w1:fY K mg "WALLS" m9){g:bc}(o:bj P w K mg base "has_one_of" 1 (aY K g))(q:Bc g){f:dR}{j:hQ}(F:bf K "all_reached" "all_reached" v8 f j):∃fn,aO P w K mg base bh 2 f j ["rings"] (aY K fn)/\A9 fn:=by
 refine' df F Ak (n:=1) rfl ?D ?B
 case D =>
  intro cdv A outer s H E hr;have nd:=Ak.nd;cases T;have fz:ko "rings":=⟨trivial⟩
  walk_at "S"
 case B =>
  clear T F o;intro web h;have bT:=h.bT;have sz:web.length<=sizeLine:=by unfold dk;lia
  have l:(cT web).map (fun k=>Dat.str k.1)=web.map fun p=>Dat.str p.1:=by unfold cT;rw[fk];rfl
  have t:(cT web).length=web.length:=a7 ..;have tr:∀p∈web,∀z∈p.2,aP z:=fun p a z i=>h.txt ((h.rg p a).2.2 z i).1
  have b:∀k,∀z∈iK web k,aP z:=fun k z i=>h.txt (EE i)
  refine' dS rfl ?w
  case w =>
   show WS _ [.dat (aX web),.no,.no] _;refine' aj (aH (Z2:=[.dat (aX web),.own (.lst (bZ.map .str)),.no]) rfl rfl (aq ?_));refine' aj (gb (fun k Z=>∃c,Fr c/\Z=[.dat (aX web),.own (.lst ((iK web k).map .str)),c]) (pj (n:=(web.length:Int)) (ae (eG rfl (congrArg some t)) ak) ?r) ⟨_,.inl rfl,rfl⟩ ?st ?C)
   case r=>lia
   case st =>
    rintro k x u _ ⟨c,m,rfl⟩;have b:=b k;rw[O1 h.nd];generalize iK web k=R at *;obtain⟨_,rfl⟩:=vW u;refine⟨[.dat (aX web),.own (.lst (R.map .str)),.dat (.int k)],by rcases m with rfl|⟨d,rfl⟩<;>rfl,?_⟩
    refine' aj (aH (Z2:=[.dat (aX web),.own (.lst ((bZ++(web.filter fun p=>p.2.any fun y=>decide (y∈R)).map (·.1)).map .str)),.dat (.int k)]) (au (ah (aZ (ae rfl ak) rfl) rfl) (ah (oW (enc:=fun p:eA×List eA=>.str p.1) (xs:=web) (fun p=>[.no,.dat (.str p.1),.dat (.lst (R.map .str)),.dat (aX web)]) (fun p=>p.2.any fun y=>decide (y∈R)) (fun p=>.str p.1) ?G rfl sz ?I ?J ?L ?M) rfl) (qZ ?N)) ?O (aq (bC ⟨_,.inr ⟨_,rfl⟩,rfl⟩)))
    case G=>show some ((cT web).map fun k=>Dat.str k.1,_)=_;rw[l]
    case I=>intro y v Z hd;rcases hd with rfl|⟨z,rfl⟩<;>rfl
    case J =>
     intro p a;have:=h.len a;exact dM (ah (aZ (ae (kZ rfl rfl (kK h.nd a)) (ae rfl ak)) (q p.2 R (tr p a) b (by lia))) rfl) rfl
    case L=>intro p a _;rfl
    case M=>intro p a;rfl
    case N =>
     have:=vv (fun p:eA×List eA=>p.2.any fun y=>decide (y∈R)) web
     rw[a7];show 4+_<=dk;unfold dk
     lia
    case O=>rw[eW,fk];rfl
   case C =>
    rintro _ ⟨c,m,rfl⟩;rw[N4];refine' aq (aj (cg (v_allB (enc:=fun p:eA×List eA=>.str p.1) (xs:=web) (fun p=>[.no,.dat (.str p.1),.dat (.lst ((iK web web.length).map .str))]) (fun p=>decide (p.1∈iK web web.length)) ?Q rfl sz ?S ?U ?V) ⟨_,rfl⟩))
    case Q=>show some ((cT web).map fun k=>Dat.str k.1,_)=_;rw[l]
    case S=>intro y v Z hd;rcases hd with rfl|⟨z,rfl⟩<;>rfl
    case V=>intro p a;rfl
    case U =>
     intro p a;have e:=qx (b web.length) (h.txt (.inl (bg.mpr ⟨p,a,rfl⟩))) false;exact ah (au rfl rfl e) rfl
def ik(x n:eA):Bool:=bS n||iP x n
def jf(web:aE):Nat:=aA (fun p=>p.2.countP (ik p.1)) web
theorem PC(a b:eA):mj (.str a) (.str b)=some (.dat (.bl (iP a b))):=by
 show some (Res.dat (.bl (decide (a.cps.toList<b.cps.toList))))=_;delta iP cB;simp
def zh(fn:bc):Prop:=∀web:aE,bB web->∃r,fn [aX web]=some r/\∃ds,r=.own (.lst ds)/\ds.length=jf web
theorem Ng(T:Txt mg)(w1:fY K mg "WALLS" m9){f:dR}{q:hQ}(F:bf K "ties_of" "ties_of" u5 f q):∃fn,aO P w K mg base bh 1 f q ["rings"] (aY K fn)/\zh fn:=by
 refine' df F Aa rfl ?C ?B
 case C =>
  intro cdv A outer s H E hr;cases T;have fz:ko "rings":=⟨trivial⟩
  walk_at "S"
 case B =>
  intro web h;have bT:=h.bT;have tr:∀p∈web,∀z∈p.2,aP z:=fun p e z u=>h.txt ((h.rg p e).2.2 z u).1
  have v:∀k,k<=web.length->jf (web.take k)<=12*k:=by
   intro k;induction k with
   | zero=>intro _;exact eB _
   | succ k G =>
    intro I;obtain⟨p,ep⟩:∃p,web[k]?=some p:=⟨web[k],cA (by lia)⟩
    have h2:=h.len (eR ep);have h3:=Wz (p:=ik p.1) (l:=p.2);unfold jf at *;simp only[gK ep,sR];show _+(p.2.countP (ik p.1)+0)<=_
    lia
  refine' wQ rfl ?w
  case w =>
   refine' aj (aH (bL ak (ro _)) rfl (aq ?_));refine' aj (gb (fun k Z=>∃ds i a,Fr i/\Fr a/\ds.length=jf (web.take k)/\Z=[.dat (aX web),.own (.lst ds),i,a]) rfl ⟨[],_,_,.inl rfl,.inl rfl,rfl,rfl⟩ ?st ?D)
   case D =>
    rintro _ ⟨ds,i,a,r,c,hd,rfl⟩;rw[a7,show (cT web).length=web.length from a7 ..,t9] at hd
    exact aq (aj (cg rfl ⟨_,_,rfl,ds,rfl,hd⟩))
   case st =>
    rintro k x m _ ⟨ds,i,a,r,c,hd,rfl⟩;unfold cT at m;rw[fk,eo] at m;obtain⟨p,ep,rfl⟩:=j'.mp m;have e:=eR ep;have I:=(bt.mp ep).1;have hlp:=h.len e;have C:=v k (by lia)
    refine⟨[.dat (aX web),.own (.lst ds),.dat (.str p.1),a],by rcases r with rfl|⟨d,rfl⟩<;>rfl,?_⟩
    refine aj (gb (fun j Z=>∃b a,Fr a/\b.length=jf (web.take k)+(p.2.take j).countP (ik p.1)/\Z=[.dat (aX web),.own (.lst b),.dat (.str p.1),a]) (dy (kZ rfl rfl (kK h.nd e))) ⟨ds,a,c,by rw[hd];simp,rfl⟩ ?_ ?_)
    ·rintro j y t _ ⟨b,a,c,g,rfl⟩;rw[eo] at t;obtain⟨n,o,rfl⟩:=j'.mp t;have J:=eR o;have L:=Wz (p:=ik p.1) (l:=p.2.take j);simp at L;refine⟨[.dat (aX web),.own (.lst b),.dat (.str p.1),.dat (.str n)],by rcases c with rfl|⟨d,rfl⟩<;>rfl,?_⟩
     refine aj (gy (D6 (cb (au rfl rfl (lA (tr p e n J).ok false))) (cb (au rfl rfl (PC _ _)))) (fun z=>?_) fun z=>bC (aq (bC ⟨b,_,.inr ⟨_,rfl⟩,?_,rfl⟩)))
     ·refine aj ⟨_,tQ (mH rfl (ae (fx (ae rfl (ae rfl ak)) (by simp[dk])) ak) (by unfold dk;lia)),aq (bC (aq (bC ⟨b++[.tup [.str p.1,.str n]],.dat (.str n),.inr ⟨_,rfl⟩,?_,rfl⟩)))⟩
      rw[gK o,n5,eH,g,YD,if_pos (show ik p.1 n=true from z)]
      simp
      lia
     ·rw[gK o,n5,YD,if_neg (by rw[show ik p.1 n=false from z];simp)]
      exact g
    ·rintro _ ⟨b,a,c,g,rfl⟩;rw[a7,t9] at g;refine aq (bC ⟨b,.dat (.str p.1),a,.inr ⟨_,rfl⟩,c,?_,rfl⟩);simp only[g,gK ep];delta jf;simp[sR];rfl
def Eb(fn:bc):Prop:=∀web:aE,bB web->fn [aX web]=some (.own (.aQ false (bq (cZ ((aN web).map br)))))
theorem IM(T:Txt mg){e:bc}(o:bj P w K mg base "corners_of" 1 (aY K e))(q:si e){f:dR}{g:hQ}(F:bf K "threes_of" "threes_of" uK f g):∃fn,aO P w K mg base bh 2 f g ["rings"] (aY K fn)/\Eb fn:=by
 refine' df F zm rfl ?D ?B
 case D =>
  intro cdv A outer s H E hr;cases T;have tp:lU "threes":=⟨trivial⟩;have tp2:lU "corners_of":=⟨trivial⟩
  walk_at "S"
 case B =>
  intro web h;have bT:=h.bT;have hl:=uE fun p r=>h.len r
  refine' dS rfl ?w
  case w =>
   refine' aj (aH rfl rfl (aq ?_));refine' aj (gb (fun k Z=>∃b,Fr b/\Z=[.dat (aX web),.own (.aQ false (bq (cZ (((aN web).take k).map br)))),b]) ?a ⟨_,.inl rfl,rfl⟩ ?st ?C)
   case a =>
    delta sQ;rw[aZ (ae rfl ak) (q web h)];show some (jx (bq (aN web)),_)=_;dsimp only[jx,bq];rw[fk];rfl
   case C =>
    rintro _ ⟨b,i,rfl⟩;rw[a7,t9];exact aq (aj (cg rfl ⟨_,rfl⟩))
   case st =>
    rintro k x j _ ⟨b,i,rfl⟩;rw[eo] at j;obtain⟨c,l,rfl⟩:=j'.mp j;rw[gK l,eW];show ∃Z1,_/\WS _ Z1 (vx (fun Z=>∃b,Fr b/\Z=[.dat (aX web),.own (.aQ false (bq (cZ (((aN web).take k).map br++[br c])))),b]) _)
    rw[Ac];have hc3:c.length=3:=by
     have:=eR l;rw[oE h.nd] at this;obtain⟨z,_,rfl⟩:=bg.mp this;rfl
    generalize t:cZ (((aN web).take k).map br)=L;have m:L.length<1000:=by
     rw[<-t];refine U5 (Bx _) ?_;rw[a7,l5]
     lia
    refine⟨[.dat (aX web),.own (.aQ false (bq L)),.dat (.tup (c.map .str))],by rcases i with rfl|⟨d,rfl⟩<;>rfl,?_⟩
    refine aj ⟨_,Ab rfl ?_ rfl m,aq (bC ⟨.dat (.tup (c.map .str)),.inr ⟨_,rfl⟩,rfl⟩)⟩;have u:lK [.tup (c.map .str)]=some (.own (.lst ((br c).map .str))):=by
     show (dv (c.map .str)).bind _=_;have:=qA (fun x:eA=>x) c
     rw[UT] at this;rw[this];exact if_pos (by lia)
    delta xQ;rw[ae (ah (aZ (ae rfl ak) u) rfl) ak];show (dv ((br c).map .str)).map _=_;have:=qA (fun x:eA=>x) (br c)
    rw[UT] at this;rw[this];rfl
theorem uH{b c:Type}(g:b->c)(f:c->Nat):∀l:List b,aA f (l.map g)=aA (fun a=>f (g a)) l
 | []=>rfl
 | a::l=>by
  show f (g a)+aA f (l.map g)=f (g a)+_;rw[uH g f l]
theorem JE{l a:List eA}:br l=br a ↔ l.Perm a:=by
 constructor
 ·intro e;have b:=hA l cB;have c:=hA a cB;rw[show l.mergeSort cB=a.mergeSort cB from e] at b
  exact b.symm.trans c
 ·exact CK
theorem Fe{web:aE}(h:bB web)(hw:jt web):(cZ ((aN web).map br)).length+web.length=jf web+1:=by
 obtain⟨k1,k2⟩:=E5 ((aN web).map br);have f:=hw.C.threes Dz (fun c _ c' _=>JE) k2 (fun k=>by
  rw[k1,oE h.nd,fk,bg];rfl)
 have g:=hw.Ai;simp only[<-f,a7,uH] at g;have e3:aA (fun p:eA×List eA=>(eE web p.1).countP fun y=>!ao (web.map (·.1)) y) web+aA (fun p:eA×List eA=>(eE web p.1).countP fun y=>ao (web.map (·.1)) y&&iP p.1 y) web=jf web:=by
  rw[<-hV];refine cJ fun p j=>?_
  rw[dz h.nd j];have hm:∀y∈p.2,(y∈web.map (·.1)\/y∈bZ):=fun y a=>((h.rg p j).2.2 y a).1
  have hd:=fun y a=>hw.C.fH y a
  generalize p.2=l at *;induction l with
  | nil=>rfl
  | cons y l m =>
   have i:=m (fun z n=>hm z (fm _ n))
   simp only[nk];have a:=hm y fv
   by_cases b:y∈web.map (·.1)
   ·have d:ao (web.map (·.1)) y=true:=decide_eq_true b
    have e:bS y=false:=by
     rw[<-v3,jO];exact hd y b
    rw[show ik p.1 y=iP p.1 y from by unfold ik;rw[e];rfl,d,<-i]
    simp
    lia
   ·have d:ao (web.map (·.1)) y=false:=decide_eq_false b
    have e:=(jO y).mpr (a.resolve_left b);rw[show ik p.1 y=true from by unfold ik;rw[e];rfl,d,<-i]
    lia
 lia
theorem Kb{web:aE}(nd:(web.map (·.1)).Nodup):rj [.lst (web.map pairD)]=some (.own (.bM (cT web))):=by
 have:∀l:aE,mn (l.map pairD)=some (cT l):=by
  intro l;induction l with
  | nil=>rfl
  | cons p l a =>
   show (mn (l.map pairD)).map _=_;rw[a];rfl
 show (mn (web.map pairD)).bind _=_;rw[this];refine if_pos ?_;delta cT;rw[fk];exact nd
structure GoodW (web:aE):Prop where
 f:bB web
 sh:oH web
 cl:(aN web).all (nz (aN web))=true
 row:∀k,k<4->oD web k
 md:(web.all fun p=>decide (p.1∈iK web web.length))=true
 th:(cZ ((aN web).map br)).length+web.length=jf web+1
def dO(d:Dat):Prop:=∃web:aE,d=.lst (web.map pairD)/\GoodW web
theorem Fk(web:aE):web.map pairD=(web.map fun p=>(p.1,p.2.map Dat.str)).map jF:=by rw[fk];rfl
theorem Ef{web:aE}(h:bB web):fV (.lst (web.map pairD))=true:=by
 have a:(web.map pairD).all di=true:=by
  rw[Wp,ia];exact fun p a=>h.nm p a
 have b:jv (web.map fun p=>(p.1,p.2.map Dat.str))=true:=by
  unfold jv;rw[show (web.map fun p=>(p.1,p.2.map Dat.str)).map (·.1)=web.map (·.1) from by rw[fk];rfl,decide_eq_true h.nd,Vx,Wp,ia]
  intro p a;have r:=h.rg p a;show hJ p.1 (p.2.map Dat.str) _=true;unfold hJ;rw[strs_map,decide_eq_true r.2.1,a7,decide_eq_true r.1,Yb,Vx,Wp,ia];intro x c;have q:=r.2.2 x c;show (decide (x∈web.map (·.1)++bZ)&&!decide (x=p.1))=true;rw[decide_eq_true (et.mpr q.1),decide_eq_false q.2];rfl
 show (decide (1<=(web.map pairD).length)&&decide ((web.map pairD).length<=8)&&(web.map pairD).all di&&jv ((web.map pairD).filterMap asPair))=true;rw[a,a7,decide_eq_true h.bT.1,decide_eq_true h.bT.2,Fk,xf,b];rfl
theorem KP{d:Dat}(g:fV d=true):∃web:aE,d=.lst (web.map pairD)/\bB web:=by
 cases d with
 | lst ds =>
  simp only[fV,ee,decide_eq_true_eq] at g;obtain⟨⟨⟨i,j⟩,m⟩,c⟩:=g;obtain⟨b,rfl,f⟩:=u6 m;rw[xf] at c;rw[a7] at i j;simp only[jv,ee,decide_eq_true_eq,ia] at c;have hs:∀p∈b,p.2=(strsOf p.2).map .str/\3<=(strsOf p.2).length/\(strsOf p.2).Nodup/\∀n∈strsOf p.2,n∈b.map (·.1)++bZ/\n≠p.1:=fun p a=>by
   have:=c.2 p a;simp only[hJ,ee,decide_eq_true_eq] at this;obtain⟨o,e,q⟩:=all_strs this.1.2;have k:strsOf p.2=o:=by rw[e,strs_map]
   rw[k];refine⟨e,?_,?_,q⟩
   ·have:=this.1.1;rw[e,a7] at this;exact this
   ·rw[<-k];exact this.2
  have l:(b.map fun p=>(p.1,strsOf p.2)).map (·.1)=b.map (·.1):=by rw[fk];rfl
  refine⟨b.map fun p=>(p.1,strsOf p.2),?_,⟨by rw[a7];exact⟨i,j⟩,fun p a=>?_,by rw[l];exact c.1,fun p a=>?_⟩⟩
  ·rw[fk];congr 1;refine pA fun p a=>?_
   show Dat.tup [.str p.1,.lst p.2]=.tup [.str p.1,.lst ((strsOf p.2).map .str)];rw[<-(hs p a).1]
  ·obtain⟨q,h,rfl⟩:=bg.mp a;exact f q h
  ·obtain⟨q,h,rfl⟩:=bg.mp a;rw[l];have:=hs q h;exact⟨this.2.1,this.2.2.1,fun n f=>⟨et.mp (this.2.2.2 n f).1,(this.2.2.2 n f).2⟩⟩
 | _=>exact absurd g (by simp[fV])
theorem Kp{web:aE}(h:bB web)(hw:jt web):GoodW web where
 f:=h
 sh:=fun p b q e z=>by
  have r:=hw.C.sym p.1 (bg.mpr ⟨p,b,rfl⟩) q.1 (bg.mpr ⟨q,e,rfl⟩);rw[dz h.nd b,dz h.nd e] at r;exact r z
 cl:=by
  rw[ia];intro y s;have i:=s;rw[oE h.nd] at i;obtain⟨⟨x,n,m⟩,_,rfl⟩:=bg.mp i;obtain⟨c,d⟩:=(iQ h).mp s;show iI (aN web) x n m=true;unfold iI;split
  ·rename_i z;rw[ee,jO,jO] at z;obtain⟨j,t,rfl⟩:=sf z.1;obtain⟨k,o,rfl⟩:=sf z.2;rw[AJ t,hw.ww x c j k t o d];exact decide_eq_true rfl
  ·rw[ee];constructor
   ·rcases hw.C.mem x c n d.mem.1 with z|z
    ·rw[decide_eq_true ((iQ h).mpr ⟨z,hw.C.jT x c n m d z⟩),Yl]
    ·rw[(jO n).mpr z,Yk]
   ·rcases hw.C.mem x c m d.mem.2 with z|z
    ·rw[decide_eq_true ((iQ h).mpr ⟨z,hw.C.j2 x c n m d z⟩),Yl]
    ·rw[(jO m).mpr z,Yk]
 row:=fun k o=>by
  obtain⟨x,c,u,l,v,A,B⟩:=hw.row k o;refine⟨x,l,?_,v,?_⟩
  ·refine List.perm_singleton.mp ((p8 (By h.nd _) (by simp)).mpr fun a=>?_)
   rw[bg,eP];constructor
   ·rintro⟨p,b,rfl⟩;rw[gf,decide_eq_true_eq,iQ h] at b;exact (u p.1 b.2.1).mp b.2.2
   ·rintro rfl;obtain⟨p,b,rfl⟩:=bg.mp c;exact⟨p,gf.mpr ⟨b,decide_eq_true ((iQ h).mpr ⟨c,(u _ c).mpr rfl⟩)⟩,rfl⟩
  ·refine (p8 A (By h.nd _)).mpr fun a=>?_
   rw[B];constructor
   ·rintro⟨D,g⟩;rw[bg];obtain⟨p,b,rfl⟩:=bg.mp D;rw[dz h.nd b] at g;exact⟨p,gf.mpr ⟨b,decide_eq_true g⟩,rfl⟩
   ·intro g;obtain⟨p,b,rfl⟩:=bg.mp g;obtain⟨b,e⟩:=gf.mp b;rw[dz h.nd b];exact⟨bg.mpr ⟨p,b,rfl⟩,of_decide_eq_true e⟩
 md:=by
  rw[ia];intro p b;have:=hw.all p.1 (bg.mpr ⟨p,b,rfl⟩);rw[a7] at this;exact decide_eq_true this
 th:=Fe h hw
end
local macro_rules | `(tactic| walk_at "1")=>Mq.fs "Rx C"
local macro_rules | `(tactic| walk_at "r12")=>`(tactic| (refine' BY ?n ?x ?a ?b ?c ?d ?e ?f ?g ?h;(case x=>rfl);(case n=>exact wO (by rfl));(case a=>rfl);(case b=>exact pR (by rfl));(case c=>rfl);(case d=>exact fun _=>rfl);(case e=>walk_at "I");(case f=>(intro _ _ _ _ _;walk_at "G"));(case g=>(intro _ _ _ _ _;walk_at "J"));(case h=>(intro _ _ _ _ _;walk_at "D"))))
local macro_rules | `(tactic| walk_at "0")=>Mq.fs ">r12"
local macro_rules | `(tactic| walk_at "Z")=>Mq.fs "D1 Dr"
local macro_rules | `(tactic| walk_at "0")=>Mq.fs "CI aarrrrnrfIptu|DE.alt&zt rrrarA&Bw rrarA&Ds rrarA|Fp DD|NC rarA|FC rarA"
local macro_rules | `(tactic| walk_at "I")=>Mq.fs "J7 rarrA"
section
variable{P:iN}{w:nE}{K:fj}{mg:eA->Option bR}{base:nS}
noncomputable def gV:dI
 | .lst [.int a,.int b],[.int m]=>if 0<m/\m.natAbs.log2<9000 then some (if a=0 then (.dat (.int (b%m)),.lst [.int (b/m),.int b]) else (.dat (.int (a%m)),.lst [.int (a/m),.int b])) else none
 | _,_=>none
theorem Qc(T:Txt mg){f:dR}{d:hQ}(F:bf K "_law_draw" "_law_draw" xa f d):aO P w K mg base bh 1 f d ["_law_purse_here","_law_out_of"] (cO K 0 gV):=by
 refine' Eg (j:=0) F Di ?B ?C ?D
 case B =>
  intro c ds r h;unfold gV at h;split at h
  ·rfl
  ·cases h
 case C =>
  intro cdv A outer s H E hr;have nd:=Di.nd;cases T;have lk:jE "_law_purse_here":=⟨trivial⟩
  walk_at "S"
 case D =>
  clear T F;intro c ds r h;unfold gV at h;split at h
  ·split at h
   ·rename_i a b m hm;cases h;have hd:jB a m=true:=by unfold jB;simpa using hm
    have hd':jB b m=true:=by unfold jB;simpa using hm
    have hm':=hm.1
    by_cases g:a=0
    ·subst g;refine' vZ ?e ?k
     case e=>walk_at "v"
     case k=>rfl
    ·rw[if_neg g];refine' vZ ?e ?k
     case e=>walk_at "v"
     case k=>rfl
   ·cases h
  ·cases h
theorem eO(p:Int×Int){m:Int}(h:0<m)(h':m<10000):∃v q,gV (pD p) [.int m]=some (.dat (.int v),pD q)/\0<=v/\v<m:=by
 have hm:0<m/\m.natAbs.log2<9000:=⟨h,JB (hI (show m.natAbs<2 ^ 14 by omega) (Nat.pow_le_pow_right (by decide) (by decide)))⟩
 delta gV pD;dsimp only;rw[if_pos hm]
 by_cases z:p.1=0
 ·rw[if_pos z];exact⟨p.2%m,(p.2/m,p.2),rfl,VF _ (by lia),U7 _ h⟩
 ·rw[if_neg z];exact⟨p.1%m,(p.1/m,p.2),rfl,VF _ (by lia),U7 _ h⟩
def jJ(c:Int):Prop:=px c<=1048576
theorem HV{i j:Int}(a:jJ i)(b:jJ j):fB i j=true:=by
 delta jJ at a b;delta fB Xp;rw[show decide ((px i:Int)+(px j:Int)>bitsLine)=false from decide_eq_false (by unfold bitsLine;omega)]
 simp
def CZ(fn:bc):Prop:=∀(c:Int) (k:Nat),jJ c->k<64->∃v:Int,fn [.int c,.int k]=some (.dat (.int v))
theorem Hq(T:Txt mg){f:dR}{a:hQ}(F:bf K "_law_mixed" "_law_mixed" vg f a):∃fn,aO P w K mg base bh 1 f a ["_law_cell","_law_k"] (aY K fn)/\CZ fn:=by
 refine' df F DU rfl ?C ?B
 case C =>
  intro cdv A outer s H E hr;cases T
  walk_at "S"
 case B =>
  intro c k b hk;have d1:∀i,jB i 2147483629=true:=fun i=>show jB 0 2147483629=true by decide +kernel
  have m1:=HV b b;have m2:∀i,fB 3 i=true:=fun i=>wL (by decide)
  have m4:∀i,fB i 48271=true:=fun i=>tP (by decide)
  have m5:fB ((c*c+3*c+7919*k+1)*48271%2147483629) ((c*c+3*c+7919*k+1)*48271%2147483629)=true:=tP (by omega)
  refine'⟨_,CU ?e⟩
  case e=>walk_at "v"
def Ee(fn:bc):Prop:=∀a:List Int,a.length<=63->(∀n∈a,jJ n)->∃p,fn [.bW a]=some (.own (pD p))
theorem O5(T:Txt mg)(B:mg "abs"=none){g:bc}(q:bj P w K mg base "_law_mixed" 1 (aY K g))(t:CZ g){f:dR}{i:hQ}(F:bf K "_law_purse" "_law_purse" yn f i):∃fn,aO P w K mg base bh 2 f i ["_law_script"] (aY K fn)/\Ee fn:=by
 refine' df F Au rfl ?B ?C
 case B =>
  intro cdv A outer s H E hr;cases T
  walk_at "S"
 case C =>
  intro a u B;refine' (wQ (P:=fun r=>∃p,r=.own (pD p)) rfl ?w).elim fun r ⟨e,p,z⟩=>⟨p,z ▸ e⟩
  case w =>
   have y:gC (.bW a) none (some 63)=some (.own (.lst (a.map .int))):=by
    show some (Res.own (.lst ((cutD a none (some ((63:Nat):Int))).map Dat.int)))=_;rw[pV,Wm u]
   have I:fK (.lst (a.map .int)) (.lst [.int 0])=some (.own (.lst ((a++[0]).map .int))):=by
    rw[eW];exact if_pos (by rw[a7,UL];unfold dk;omega)
   have J:cD (.lst ((a++[0]).map .int))=some (a.length+1):=by simp[cD]
   refine' aj (aH (au (ah (nB rfl rfl y) rfl) (ah (bL (ae rfl ak) (by unfold dk;decide)) rfl) I) rfl (aq ?_))
   refine' aj (aH (v_res rfl) rfl (aq ?_));have L:∀c∈a++[0],jJ c:=fun c M=>by
    rcases et.mp M with h|h
    ·exact B c h
    ·rw[eP.mp h];delta jJ;decide +kernel
   refine' aj (gb (fun k Z=>∃(n:Int) (b:Slot),Fr b/\Z=[.dat (.bW a),.own (.lst ((a++[0]).map .int)),.dat (.int n),b]) (pj (ae rfl ak) ⟨by decide,by decide⟩) ⟨1,.no,.inl rfl,rfl⟩ ?st ?D)
   case st =>
    rintro k x N _ ⟨n,b,l,rfl⟩;obtain⟨hk,rfl⟩:=vW N;refine⟨[.dat (.bW a),.own (.lst ((a++[0]).map .int)),.dat (.int n),.dat (.int k)],by rcases l with rfl|⟨d,rfl⟩<;>rfl,?_⟩
    have hm:k%(a.length+1)<(a++[0]).length:=by rw[eH];exact W1 _ (by simp)
    obtain⟨v,O⟩:=t (a++[0])[k%(a.length+1)] k (L _ (UU hm)) (by lia)
    have m:cu (.lst ((a++[0]).map .int)) (.int ((k%(a.length+1):Nat):Int))=some (.int (a++[0])[k%(a.length+1)]):=by
     exact lE (by rw[eo,cA hm];rfl)
    have em:(k:Int)%((a.length+1:Nat):Int)=((k%(a.length+1):Nat):Int):=(Int.natCast_emod ..).symm;rw[<-em] at m;have Q:decide (0<((a.length+1:Nat):Int))=true:=decide_eq_true (by omega)
    have mk:fB n 2147483587=true:=tP (by decide)
    refine' aj (aH (Z2:=[.dat (.bW a),.own (.lst ((a++[0]).map .int)),.dat (.int (n*2147483587+v)),.dat (.int k)]) (au (ah (gU (au rfl rfl (if_pos mk))) rfl) (ah (aZ (ae (bA rfl (ah (au rfl (eG rfl J) (if_pos Q)) rfl) rfl m) (ae rfl ak)) O) rfl) rfl) rfl (aq (bC ⟨_,_,.inr ⟨_,rfl⟩,rfl⟩)))
   case D =>
    rintro _ ⟨n,b,l,rfl⟩;have R:0<(a++[0]).length:=by simp
    have o:cu (.lst ((a++[0]).map .int)) (.int 0)=some (.int (a++[0])[0]):=by
     rw[mP];exact lE (j:=0) (by rw[eo,cA R];rfl)
    generalize (a++[0])[0]=c0 at o;have ab:bY tJ (dJ (l6 1 (fun Z=>some (.int 0,Z))) fO) [.dat (.bW a),.own (.lst ((a++[0]).map .int)),.dat (.int n),b]=some (.dat (.int (if c0<0 then -c0 else c0)),[.dat (.bW a),.own (.lst ((a++[0]).map .int)),.dat (.int n),b]):=aZ (ae (bA rfl rfl rfl o) ak) rfl
    refine' aq (aj (gy (cb (au (r:=.dat (.bl (decide ((10:Int) ^ (18:Int).toNat<=if c0<0 then -c0 else c0)))) (ah ab rfl) (ah (au rfl rfl rfl) rfl) rfl)) ?G ?no))
    case G =>
     intro _;exact aj (cg (bL (ae (ah ab rfl) (ae rfl ak)) (show 2<=dk by unfold dk;decide)) (fL ⟨_,_,rfl,(_,_),rfl⟩))
    case no =>
     intro _;exact bC (aq (aj (cg (bL (ae rfl (ae rfl ak)) (show 2<=dk by unfold dk;decide)) (fL ⟨_,_,rfl,(_,_),rfl⟩))))
noncomputable def iC(st:List Int)(a k j:Nat):Nat:=97+((st.getD j 0+5*(k:Int)*(if j=a then 1 else 0))%26).toNat
def ck(st:List Int)(a k:Nat):Str:=⟨((ka st.length).map (iC st a k)).toArray⟩
def jL(x:eA):Str:=if bS x then x++hO "x" else x
def gO(st:List Int)(a m:Nat):List Str:=(ka m).map fun k=>jL (ck st a k)
theorem tZ(st:List Int)(a k:Nat):(ck st a k).length=st.length:=by
 show ((ka st.length).map (iC st a k)).toArray.size=_;rw[eT,a7,nT]
theorem A0(st:List Int)(a k:Nat):∀c∈(ck st a k).cps.toList,gP c=true:=fun c h=>by
 obtain⟨j,_,rfl⟩:=bg.mp h;exact JP (VF _ (by decide)) (U7 _ (by decide))
theorem HP{st:List Int}(h0:0<st.length)(h7:st.length<=7)(a k:Nat):cF (jL (ck st a k))=true:=by
 have hl:=tZ st a k;have hw:=A0 st a k;have fst:∀x:eA,0<x.length->∃c,x.cps.toList[0]?=some c:=fun x g=>⟨_,cA (show 0<x.cps.toList.length by simp only[nr];exact g)⟩
 delta jL;split
 ·have ex:(hO "x").cps.toList=[120]:=by decide +kernel
  have e:(ck st a k++hO "x").cps.toList=(ck st a k).cps.toList++[120]:=by simp only[Vh,U0,ex]
  have el:(ck st a k++hO "x").length=st.length+1:=by
   rw[<-hl];show (ck st a k++hO "x").cps.size=(ck st a k).cps.size+1;rw[<-nr,e,eH,nr];rfl
  obtain⟨c,d⟩:=fst (ck st a k++hO "x") (by omega)
  refine qM.nm ⟨d,fun b f=>?_,?_⟩ (Kg _)
  ·rw[e] at f
   rcases et.mp f with z|z
   ·exact hw b z
   ·rw[eP.mp z];rfl
  ·show (ck st a k++hO "x").length<=8;omega
 ·rename_i h;obtain⟨c,d⟩:=fst (ck st a k) (by omega)
  exact qM.nm ⟨d,hw,by rw[nr];show (ck st a k).length<=8;omega⟩ (by simpa using h)
theorem yL{st:List Int}{a i j:Nat}(b:a<st.length)(hi:i<8)(hj:j<8)(h:ck st a i=ck st a j):i=j:=by
 have h:=congrArg (fun x:eA=>x.cps.toList[a]?) h
 have e:∀k,(ck st a k).cps.toList[a]?=some (iC st a k a):=fun k=>by
  show ((ka st.length).map (iC st a k))[a]?=_;rw[eo,VE b];rfl
 simp only[e] at h;have h:=Option.some.inj h;unfold iC at h;rw[if_pos rfl] at h;omega
theorem vX{st:List Int}{a i j:Nat}(b:a<st.length)(c:i<8)(d:j<8)(h:jL (ck st a i)=jL (ck st a j)):i=j:=by
 have l1:=tZ st a i;have l2:=tZ st a j;have eq:∀x y:eA,(x++hO "x").cps.toList=y.cps.toList->y.length=x.length+1:=fun x y h=>by
  have:=congrArg List.length h;simp[Vh] at this;exact this.symm
 delta jL at h;split at h<;>split at h
 ·have h:=congrArg (fun x:eA=>x.cps.toList) h
  simp only[Vh,U0] at h;exact yL b c d (kY (List.append_cancel_right h))
 ·have:=eq _ _ (congrArg (fun x:eA=>x.cps.toList) h)
  omega
 ·have:=eq _ _ (congrArg (fun x:eA=>x.cps.toList) h.symm)
  omega
 ·exact yL b c d h
theorem JM{st:List Int}{a m:Nat}(c:a<st.length)(d:st.length<=7)(hm:m<=8):(gO st a m).length=m/\(∀x∈gO st a m,cF x=true)/\(gO st a m).Nodup:=by
 refine⟨by delta gO;rw[a7,nT],fun x f=>?_,?_⟩
 ·obtain⟨k,_,rfl⟩:=bg.mp f;exact HP (by lia) d a k
 ·refine gj.mpr (List.nodup_range.imp_of_mem fun {i j} g h b e=>?_)
  have:=Vc.mp g;have:=Vc.mp h;exact b (vX c (by omega) (by omega) e)
theorem Cv{i j:Int}(h:fB i j=true):fU fB (fun i j=>.int (i*j)) (.int i) (.int j)=some (.dat (.int (i*j))):=if_pos h
theorem Qp(n:Nat):dn 0 (n:Int)=(ka n).map fun j:Nat=>.int (j:Int):=by
 delta dn;exact pA fun j _=>by rw[Int.zero_add]
noncomputable def lB(st:List Int)(a k j:Nat):Int:=st.getD j 0+5*(k:Int)*(if j=a then 1 else 0)
theorem Lx(st:List Int)(a k:Nat):Wf (hO "") ((ka st.length).map fun j=>(⟨#[iC st a k j]⟩:eA))=ck st a k:=by
 refine kY ?_;have:=OM ((ka st.length).map (iC st a k));rw[fk] at this;exact this
def Hd(t:Slot)(d:Dat):Prop:=t=.own d\/t=.dat d
def Al(fn:dI):Prop:=∀p (m:Nat),m<=8->∃r b,fn (pD p) [.int m]=some (r,b)/\∃(a:List eA) (c:Int×Int),r=.own (.lst (a.map .str))/\b=pD c/\a.length=m/\(∀x∈a,cF x=true)/\a.Nodup
theorem IL(T:Txt mg)(p1:bj P w K mg base "_law_draw" 1 (cO K 0 gV)){f:dR}{O:hQ}(F:bf K "_law_names" "_law_names" vV f O):∃fn,aO P w K mg base bh 2 f O ["_law_purse_here","_law_many"] (cO K 0 fn)/\Al fn:=by
 refine' l9 F CN rfl ?B ?M
 case B =>
  intro cdv A outer s H E hr;have nd:=CN.nd;cases T;have lk:jE "_law_purse_here":=⟨trivial⟩
  walk_at "S"
 case M =>
  intro p m hm;refine' lP rfl ?w
  case w =>
   obtain⟨v,Q,t0,a0,b0⟩:=eO p (m:=7) (by decide) (by decide)
   refine' aj (aH (v_res rfl) rfl (aq ?_));refine' aj (aH (au rfl (ah (cR rfl (ae rfl ak) rfl t0 rfl) rfl) rfl) rfl (aq ?_));refine' aj (EH ?_);refine' FO (fun k z Z=>∃(I:Int×Int) (J:Slot) (cs:List Int),Z=[.no,J,.io (pD I)]/\Fr J/\z=cs.map .int/\cs.length=k) (pj rfl (by omega)) rfl rfl rfl ⟨_,_,[],rfl,.inl rfl,rfl,rfl⟩ ?c7 ?c8 ?c9
   case c7=>unfold dn dk;rw[a7,nT];omega
   case c8 =>
    rintro k1 x R z Z ⟨I,J,cs,rfl,U,rfl,V⟩;refine⟨[.no,.dat x,.io (pD I)],by rcases U with rfl|⟨d,rfl⟩<;>rfl,?_⟩
    obtain⟨v1,C,t1,_,_⟩:=eO I (m:=26) (by decide) (by decide)
    refine' rT rfl ⟨fun h=>(by cases h),fun _=>FK (ah (cR rfl (ae rfl ak) rfl t1 rfl) rfl) ⟨rfl,C,_,cs++[v1],rfl,.inr ⟨_,rfl⟩,by rw[eW];rfl,by rw[eH,V];rfl⟩⟩
   rintro z Z ⟨C,J,st,rfl,-,rfl,L⟩;have L:st.length=(1+v).toNat:=by rw[L];delta dn;rw[a7,nT];lia
   obtain⟨v2,o,W,a2,b2⟩:=eO C (m:=1+v) (by omega) (by omega)
   obtain⟨a,rfl⟩:=zc a2;have ha:a<st.length:=by omega
   have h7:st.length<=7:=by omega
   have hL:(1+v)=(st.length:Int):=by omega
   rw[hL] at W ⊢;refine⟨pD C,rfl,[.io (pD C),.dat (.int m),.dat (.str "abcdefghijklmnopqrstuvwxyz"),.dat (.int st.length),.own (.lst (st.map .int)),.no,.no,.no,.no,.no],rfl,?_⟩;refine' aq (aj (aH (Z2:=[.io (pD o),.dat (.int m),.dat (.str "abcdefghijklmnopqrstuvwxyz"),.dat (.int st.length),.own (.lst (st.map .int)),.dat (.int a),.no,.no,.no,.no]) (cR rfl (ae rfl ak) rfl W rfl) rfl (aq ?_)));refine' aj (aH (Z2:=[.io (pD o),.dat (.int m),.dat (.str "abcdefghijklmnopqrstuvwxyz"),.dat (.int st.length),.own (.lst (st.map .int)),.dat (.int a),.own (.lst []),.no,.no,.no]) (bL ak (ro _)) rfl (aq ?_));refine' aj (gb (fun k Z=>∃(t u q r:Slot),Z=[.io (pD o),.dat (.int m),.dat (.str "abcdefghijklmnopqrstuvwxyz"),.dat (.int st.length),t,.dat (.int a),.own (.lst ((gO st a k).map .str)),u,q,r]/\Hd t (.lst (st.map .int))/\Fr u/\(Fr q\/∃d,q=.own d)/\Fr r) (pj rfl (by omega)) ⟨_,_,_,_,rfl,.inl rfl,.inl rfl,.inl (.inl rfl),.inl rfl⟩ ?st ?X)
   case X =>
    rintro _ ⟨t,u,q,r,rfl,-⟩;have e:(dn 0 (m:Int)).length=m:=by unfold dn;rw[a7,nT];omega
    rw[e];exact aq (aj (cg rfl (fL ⟨_,_,_,rfl,rfl,gO st a m,o,rfl,rfl,JM ha h7 hm⟩)))
   case st =>
    rintro k x R _ ⟨t,u,q,r,rfl,h4,f7,f8,f9⟩;obtain⟨hk,rfl⟩:=vW R;refine⟨[.io (pD o),.dat (.int m),.dat (.str "abcdefghijklmnopqrstuvwxyz"),.dat (.int st.length),t,.dat (.int a),.own (.lst ((gO st a k).map .str)),.dat (.int k),q,r],by rcases f7 with rfl|⟨d,rfl⟩<;>rfl,?_⟩
    have Y:((gO st a k).map Dat.str).length<sizeLine:=by
     unfold gO dk;rw[a7,a7,nT];omega
    have es:gO st a (k+1)=gO st a k++[jL (ck st a k)]:=by
     unfold gO;rw[Xu,eW];rfl
    rw[es,eW];generalize (gO st a k).map Dat.str=found at *;refine' aj (aH (Z2:=[.io (pD o),.dat (.int m),.dat (.str "abcdefghijklmnopqrstuvwxyz"),.dat (.int st.length),.dat (.lst (st.map .int)),.dat (.int a),.own (.lst found),.dat (.int k),.own (.lst ((ka st.length).map fun j=>.int (lB st a k j))),r]) (gZ (enc:=fun j:Nat=>.int (j:Int)) (xs:=ka st.length) (fun j=>[.no,.dat (.int j),.dat (.int a),.dat (.int k),.dat (.lst (st.map .int))]) (fun j=>.int (lB st a k j)) ?d1 ?d2 ?d3 ?d4 ?d5 ?d6) ?d7 (aq ?d8))
    case d1=>rw[<-Qp];exact pj rfl (by omega)
    case d2=>rcases h4 with rfl|rfl<;>rfl
    case d3=>rw[nT];unfold dk;omega
    case d4=>rintro j _ Z (rfl|⟨y,rfl⟩)<;>rfl
    case d5 =>
     intro j D;have D:=Vc.mp D;have ix:cu (.lst (st.map .int)) (.int (j:Int))=some (.int (st.getD j 0)):=by
      rw[mP];exact lE (by rw[eo,cA D,mA,cA D];rfl)
     have ei:mC [.bl (decide ((j:Int)=(a:Int)))]=some (.dat (.int (if j=a then 1 else 0))):=by
      by_cases e:j=a
      ·rw[if_pos e,decide_eq_true (by omega)];rfl
      ·rw[if_neg e,decide_eq_false (by omega)];rfl
     have m5:fB 5 (k:Int)=true:=wL (by decide)
     have m6:fB (5*(k:Int)) (if j=a then 1 else 0)=true:=tP (by split<;>decide)
     exact ah (au (bA rfl rfl rfl ix) (ah (gU (au (ah (gU (au rfl rfl (Cv m5))) rfl) (ah (aZ (ae (ah (au rfl rfl (eq_int _ _)) rfl) ak) ei) rfl) (Cv m6))) rfl) rfl) rfl
    case d6=>exact fun _ _=>rfl
    case d7=>rcases f8 with (rfl|⟨d,rfl⟩)|⟨d,rfl⟩<;>rfl
    case d8 =>
     have N:∀l:List Nat,(l.map fun j=>(⟨#[iC st a k j]⟩:eA).length).sum=l.length:=fun l=>by
      induction l with
      | nil=>rfl
      | cons c l ih=>rw[hY,UG,ih,f'];exact YA _ _
     have ej:=OT (sep:=hO "") (ah (gZ (enc:=fun j:Nat=>Dat.int (lB st a k j)) (xs:=ka st.length) (fun j=>[.no,.dat (.int (lB st a k j)),.dat (.str "abcdefghijklmnopqrstuvwxyz")]) (fun j=>.str ⟨#[iC st a k j]⟩) (fi:=alt (jg (cC 8)) (jN (cC 8))) (caps:=[none,none,some 2]) (g:=kD 1) (fe:=l6 2 (dG (cw (fU (fun _ j=>decide (0<j)) fun i j=>Dat.int (i%j)) (cC 1) (fC (.int 26))))) (Z:=[.io (pD o),.dat (.int m),.dat (.str "abcdefghijklmnopqrstuvwxyz"),.dat (.int st.length),.dat (.lst (st.map .int)),.dat (.int a),.own (.lst found),.dat (.int k),.own (.lst ((ka st.length).map fun j=>.int (lB st a k j))),r]) (dy rfl) rfl (by rw[nT];unfold dk;omega) (by rintro j _ Z (rfl|⟨y,rfl⟩)<;>rfl) (fun j D=>bA rfl (ah (au rfl rfl rfl) rfl) rfl (M1 (VF _ (by decide)) (U7 _ (by decide)))) (fun _ _=>rfl)) rfl) (A4 (fun j=>(⟨#[iC st a k j]⟩:eA)) (ka st.length)) ⟨by decide +kernel,by rw[fk,a7,nT];have:=N (ka st.length);rw[nT] at this;show ((ka st.length).map fun j=>(⟨#[iC st a k j]⟩:eA).length).sum+_<=_;omega⟩
     rw[Lx] at ej;refine' aj (aH (Z2:=[.io (pD o),.dat (.int m),.dat (.str "abcdefghijklmnopqrstuvwxyz"),.dat (.int st.length),.dat (.lst (st.map .int)),.dat (.int a),.own (.lst found),.dat (.int k),.dat (.lst ((ka st.length).map fun j=>.int (lB st a k j))),.dat (.str (ck st a k))]) (v_res ej) ?g1 (aq ?g2))
     case g1=>rcases f9 with rfl|⟨d,rfl⟩<;>rfl
     case g2 =>
      have wl:=tZ st a k;have tx:r6 (ck st a k)=true:=BB (by
       rw[WT];intro c hc;have:=A0 st a k c (YE.mpr hc);unfold gP at this;rw[ee,decide_eq_true_eq,decide_eq_true_eq] at this;simp;omega)
      have iw:fI false (.str (ck st a k)) (.lst [.str "north",.str "east",.str "south",.str "west"])=some (.dat (.bl (bS (ck st a k)))):=Mx tx false;have RD:fK (.str (ck st a k)) (.str (hO "x"))=some (.dat (.str (ck st a k++hO "x"))):=DY (by rw[wl,show (hO "x").length=1 from by decide +kernel];unfold dk;omega)
      generalize (ka st.length).map (fun j=>Dat.int (lB st a k j))=S
      have G:∀y,y=jL (ck st a k)->∃t u q r,[.io (pD o),.dat (.int m),.dat (.str "abcdefghijklmnopqrstuvwxyz"),.dat (.int st.length),.dat (.lst (st.map .int)),.dat (.int a),.own (.lst (found++[.str y])),.dat (.int k),.dat (.lst S),.dat (.str y)]=[.io (pD o),.dat (.int m),.dat (.str "abcdefghijklmnopqrstuvwxyz"),.dat (.int st.length),t,.dat (.int a),.own (.lst (found++[jL (ck st a k)].map .str)),u,q,r]/\Hd t (.lst (st.map .int))/\Fr u/\(Fr q\/∃d,q=.own d)/\Fr r:=fun y e=>e ▸ ⟨_,_,_,_,rfl,.inr rfl,.inr ⟨_,rfl⟩,.inl (.inr ⟨_,rfl⟩),.inr ⟨_,rfl⟩⟩
      have nx:jL (ck st a k)=if bS (ck st a k) then ck st a k++hO "x" else ck st a k:=rfl
      generalize ck st a k=x at *;refine' aj (gy (b:=bS x) (cb (au rfl (ah (bL (ae rfl (ae rfl (ae rfl (ae rfl ak)))) (show 4<=dk by unfold dk;decide)) rfl) iw)) ?yes ?no)
      case yes =>
       intro B;rw[B] at nx;exact aj (aH (au rfl rfl RD) rfl (aq (bC (aq (aj (mY (mH rfl rfl Y) (aq (bC (G _ nx.symm)))))))))
      case no =>
       intro B;rw[B] at nx;exact bC (aq (aj (mY (mH rfl rfl Y) (aq (bC (G _ nx.symm))))))
structure Gd (o:Ob) (rs:Fl):Prop where
 c:Cuts o (rs.map (·.2))
 f:dN (rs.map (·.2))
def Bd(o:Ob):Prop:=o.l=0/\o.b=0/\0<o.r/\o.r<=999/\0<o.t/\o.t<=999
theorem Oo(v:Int)(ys:List Int):fI false (.int v) (.lst (ys.map .int))=some (.dat (.bl (decide (v∈ys)))):=by
 have a:bH (.lst (ys.map .int))=true:=iZ (by
  show (ys.map Dat.int).all gQ=true;rw[ia];intro d hd;obtain⟨y,_,rfl⟩:=bg.mp hd;rfl)
 show (if (bH (.int v)&&bH (.lst (ys.map .int)))=true then some (Res.dat (.bl (inD (.int v) (ys.map .int)))) else none)=_
 rw[lb,a];have e:inD (.int v) (ys.map .int)=decide (v∈ys):=by
  rw[nj,Wo,n4,sj,decide_eq_true_eq];constructor
  ·rintro⟨y,b,e⟩;have e:dw (.int y) (.int v)=true:=e;rw[lR,decide_eq_true_eq] at e;exact e ▸ b
  ·exact fun h=>⟨v,h,(lR v v).trans (decide_eq_true rfl)⟩
 rw[e];rfl
theorem Bv{Q:Out->Prop}{Ls:List Int}{f:Bool->Int->DS}{c:BF}{fb:SF}(g:∀b v,c (f b v)=some (decide (v∈Ls),f false v))(i:∀v,fb (f false v)=some (.next (f false (v+1)))):∀(n:Nat) (b:Bool) (v:Int),(Ls.filter (fun x=>decide (v<=x))).length<n->(∀a,v<=a->a∉Ls->Q (.next (f false a)))->WS (gw c fb n) (f b v) Q
 | 0,_,_,h,_=>absurd h (Ww _)
 | n+1,b,v,h,q=>by
  have e:=g b v
  by_cases d:v∈Ls
  ·rw[decide_eq_true d] at e;refine AN e (i v) (Bv g i n false (v+1) ?_ fun a h1 j=>q a (by omega) j)
   have k:Ls.filter (fun x=>decide (v+1<=x))=(Ls.filter fun x=>decide (v<=x)).filter fun x=>decide (v+1<=x):=by
    rw[List.filter_filter];refine V0 fun x _=>?_
    by_cases h:v+1<=x
    ·rw[decide_eq_true h,decide_eq_true (by omega:v<=x)];rfl
    ·rw[decide_eq_false h];rfl
   have:=List.length_filter_lt_length_iff_exists (l:=Ls.filter fun x=>decide (v<=x)) (p:=fun x=>decide (v+1<=x)) |>.mpr ⟨v,gf.mpr ⟨d,decide_eq_true (U' v)⟩,by simp;lia⟩
   rw[k];omega
  ·rw[decide_eq_false d] at e;exact zY e (q v (U' v) d)
def co(k:Nat)(o:Ob):Int:=if k=1 then o.l else if k=2 then o.b else if k=3 then o.r else o.t
def kI(k:Nat)(c:Int)(o:Ob):Ob:=if k=1 then ⟨o.l,o.b,c,o.t⟩ else ⟨o.l,o.b,o.r,c⟩
def mU(k:Nat)(c:Int)(o:Ob):Ob:=if k=1 then ⟨c,o.b,o.r,o.t⟩ else ⟨o.l,c,o.r,o.t⟩
theorem mw(x:eA×Ob){k:Nat}(a:k=1\/k=2\/k=3\/k=4):cu (aF x) (.int (k:Int))=some (.int (co k x.2)):=by
 rcases a with rfl|rfl|rfl|rfl<;>rfl
theorem Gd.cut{o:Ob}{A B:Fl}{x:eA×Ob}(g:Gd o (A++x::B)){k:Nat}(j:k=1\/k=2){c:Int}(l:co k x.2<c)(m:c<co (k+2) x.2)(e:∀y∈A++x::B,co k y.2≠c/\co (k+2) y.2≠c)(nm:eA):Gd o (A++[(x.1,kI k c x.2)]++B++[(nm,mU k c x.2)]):=by
 obtain⟨f,i⟩:=g;rw[eW,hY] at f i;have ok:x.2.ok:=by
  have:=f.aG x.2 (by simp)
  exact⟨this.2.1,this.2.2.2.2.1⟩
 have ex:(A.map (·.2)++x.2::B.map (·.2))[A.length]?=some x.2:=by
  rw[lz (by rw[a7];exact eB _),a7,aaN]
  rfl
 have sp:∀d,Cuts x.2 d->Cuts o (A.map (·.2)++d++B.map (·.2)):=fun d h=>by
  have:=f.L7 ex h;rw[List.take_left' (by rw[a7]),List.drop_append,a7,Wn (by rw[a7];lia),Nat.add_sub_cancel_left,ZL] at this
  exact this
 have pm:∀a b:Ob,(A.map (·.2)++[a]++B.map (·.2)++[b]).Perm (A.map (·.2)++[a,b]++B.map (·.2)):=fun a b=>by
  rw[ph,ph,ph];refine List.Perm.append_left _ ?_;show (a::(B.map (·.2)++[b])).Perm (a::b::B.map (·.2))
  exact (XU b _).cons a
 constructor
 ·rw[eW,eW,eW];refine (sp [kI k c x.2,mU k c x.2] ?_).perm (pm _ _)
  rcases j with rfl|rfl
  ·exact Cuts.on ok l m
  ·exact Cuts.up ok l m
 ·rw[eW,eW,eW];have e:∀z∈A.map (·.2)++x.2::B.map (·.2),co k z≠c/\co (k+2) z≠c:=fun z n=>by
   rw[<-hY,<-eW] at n;obtain⟨y,p,rfl⟩:=bg.mp n;exact e y p
  rcases j with rfl|rfl
  ·exact i.Qa ok e
  ·exact i.O' ok e
def Ei(fn:dI):Prop:=∀(p:Int×Int) (rs:Fl) (nm:eA) (o:Ob),Bd o->Gd o rs->0<rs.length->rs.length<8->∃r b,fn (pD p) [aK rs,.str nm]=some (r,b)/\∃(a:Fl) (c:Int×Int),r.val=aK a/\b=pD c/\Gd o a/\(a=rs\/(a.map (·.1)).Perm (nm::rs.map (·.1)))
theorem Gq(T:Txt mg)(p1:bj P w K mg base "_law_draw" 1 (cO K 0 gV)){f:dR}{R:hQ}(F:bf K "_law_cut" "_law_cut" xp f R):∃fn,aO P w K mg base bh 2 f R ["_law_purse_here","_law_rows","_law_name"] (cO K 0 fn)/\Ei fn:=by
 refine' l9 F AR rfl ?L ?M
 case L =>
  intro cdv A outer s H E hr;cases T;have lk:jE "_law_purse_here":=⟨trivial⟩
  walk_at "S"
 case M =>
  intro p rs nm o L g h0 h8;refine' lP rfl ?w
  case w =>
   have ln:cD (aK rs)=some rs.length:=by simp[aK,cD]
   obtain⟨v0,S,t0,a0,b0⟩:=eO p (m:=(rs.length:Int)) (by omega) (by omega)
   obtain⟨at_,rfl⟩:=zc a0;have U:at_<rs.length:=by omega
   refine' aj (aH (cR rfl (ae (eG rfl ln) ak) rfl t0 rfl) rfl (aq ?_));obtain⟨N,u,V,a1,b1⟩:=eO S (m:=2) (by decide) (by decide)
   obtain⟨k,i,ek⟩:∃k:Nat,(k=1\/k=2)/\1+N=(k:Int):=⟨(1+N).toNat,by omega,by omega⟩
   refine' aj (aH (au rfl (ah (cR rfl (ae rfl ak) rfl V rfl) rfl) (by show some (Res.dat (.int (1+N)))=_;rw[ek])) rfl (aq ?_))
   obtain⟨x,ex⟩:∃x,rs[at_]?=some x:=⟨_,cA U⟩;have hx:=eR ex;have ir:cu (aK rs) (.int (at_:Int))=some (aF x):=by
    show eZ (rs.map aF) at_=_;exact lE (by rw[eo,ex];rfl)
   refine' aj (aH (Z2:=[.io (pD u),.dat (aK rs),.dat (.str nm),.dat (.int at_),.dat (.int k),.dat (aF x),.no,.no,.no,.no]) (v_res (bA rfl rfl rfl ir)) rfl (aq ?_));have G:∀y,cu (aF y) (.int (k:Int))=some (.int (co k y.2)):=fun y=>mw y (by omega)
   have I:∀y,cu (aF y) (.int ((k:Int)+2))=some (.int (co (k+2) y.2)):=fun y=>mw y (k:=k+2) (by omega)
   have bx:∀y∈rs,0<=co k y.2/\co k y.2<co (k+2) y.2/\co (k+2) y.2<=999:=fun y B=>by
    have:=g.c.aG y.2 (bg.mpr ⟨y,B,rfl⟩);unfold Bd at L
    rcases i with rfl|rfl
    ·show 0<=y.2.l/\y.2.l<y.2.r/\y.2.r<=999;omega
    ·show 0<=y.2.b/\y.2.b<y.2.t/\y.2.t<=999;omega
   have hxb:=bx x hx;have fW:∀(q:Int×Int),∃(h:Fl) (p':Int×Int),(Res.dat (aK rs)).val=aK h/\pD q=pD p'/\Gd o h/\(h=rs\/(h.map (·.1)).Perm (nm::rs.map (·.1))):=fun q=>⟨rs,q,rfl,rfl,g,.inl rfl⟩
   refine' aj (gy (cb (au (r:=.dat (.bl (decide (co (k+2) x.2-co k x.2<2)))) (ah (au (bA rfl (ah (au rfl rfl rfl) rfl) rfl (I x)) (bA rfl rfl rfl (G x)) rfl) rfl) rfl rfl)) ?W ?no)
   case W=>exact fun _=>aj (cg rfl (fL ⟨_,_,_,rfl,rfl,fW u⟩))
   case no =>
    intro X;have X:¬co (k+2) x.2-co k x.2<2:=by simpa using X
    refine' bC (aq ?_);have sz:rs.length<=sizeLine:=by unfold dk;omega
    refine' aj (aH (Z2:=[.io (pD u),.dat (aK rs),.dat (.str nm),.dat (.int at_),.dat (.int k),.dat (aF x),.own (.lst ((rs.map (fun y=>co k y.2)++rs.map (fun y=>co (k+2) y.2)).map .int)),.no,.no,.no]) (au (r:=.own (.lst ((rs.map (fun y=>co k y.2)++rs.map (fun y=>co (k+2) y.2)).map .int))) (ah (gZ (enc:=aF) (xs:=rs) (fun y=>[.no,.dat (aF y),.dat (.int k)]) (fun y=>.int (co k y.2)) (dy rfl) rfl sz (by rintro y _ Z (rfl|⟨z,rfl⟩)<;>rfl) (fun y _=>bA rfl rfl rfl (G y)) (fun _ _=>rfl)) rfl) (ah (gZ (enc:=aF) (xs:=rs) (fun y=>[.no,.dat (aF y),.dat (.int k)]) (fun y=>.int (co (k+2) y.2)) (dy rfl) rfl sz (by rintro y _ Z (rfl|⟨z,rfl⟩)<;>rfl) (fun y _=>bA rfl (ah (au rfl rfl rfl) rfl) rfl (I y)) (fun _ _=>rfl)) rfl) ?Y) rfl (aq ?_))
    case Y =>
     rw[eW,fk,fk];exact if_pos (by rw[a7,a7];unfold dk;omega)
    generalize hL:rs.map (fun y=>co k y.2)++rs.map (fun y=>co (k+2) y.2)=Ls
    have RD:Ls.length<1000:=by rw[<-hL,eH,a7,a7];omega
    obtain⟨v2,d,t2,a2,b2⟩:=eO u (m:=co (k+2) x.2-co k x.2-1) (by omega) (by omega)
    refine' aj (aH (Z2:=[.io (pD d),.dat (aK rs),.dat (.str nm),.dat (.int at_),.dat (.int k),.dat (aF x),.own (.lst (Ls.map .int)),.dat (.int (co k x.2+1+v2)),.no,.no]) (au (ah (au (bA rfl rfl rfl (G x)) rfl rfl) rfl) (ah (cR rfl (ae (ah (au (ah (au (bA rfl (ah (au rfl rfl rfl) rfl) rfl (I x)) (bA rfl rfl rfl (G x)) rfl) rfl) rfl rfl) rfl) ak) rfl t2 rfl) rfl) rfl) rfl (aq ?_));refine' aj (Bv (Ls:=Ls) (f:=fun b v=>[.io (pD d),.dat (aK rs),.dat (.str nm),.dat (.int at_),.dat (.int k),.dat (aF x),(if b then .own (.lst (Ls.map .int)) else .dat (.lst (Ls.map .int))),.dat (.int v),.no,.no]) ?w1 ?w2 ow true _ ?w3 ?w4)
    case w1=>exact fun b v=>by cases b<;>exact cb (au rfl rfl (Oo v Ls))
    case w2=>exact fun v=>rfl
    case w3=>exact U5 (vv _ _) RD
    case w4 =>
     intro c hc C;show AQ _ _ (.next [.io (pD d),.dat (aK rs),.dat (.str nm),.dat (.int at_),.dat (.int k),.dat (aF x),.dat (.lst (Ls.map .int)),.dat (.int c),.no,.no]);refine' aq (aj (gy (cb (au (r:=.dat (.bl (decide (co (k+2) x.2<=c)))) rfl (bA rfl (ah (au rfl rfl rfl) rfl) rfl (I x)) rfl)) ?y2 ?O))
     case y2=>exact fun _=>aj (cg rfl (fL ⟨_,_,_,rfl,rfl,fW d⟩))
     case O =>
      intro J;have J:¬co (k+2) x.2<=c:=by simpa using J
      refine' bC (aq ?_);have n1:∀l:List Dat,l.length=5->fJ l.length ((k:Int)+2)=some (k+2):=fun l hl=>by
       rw[hl]
       rcases i with rfl|rfl<;>rfl
      have O:∀l:List Dat,l.length=5->fJ l.length (k:Int)=some k:=fun l hl=>by
       rw[hl]
       rcases i with rfl|rfl<;>rfl
      have n0:∀l:List Dat,l.length=5->fJ l.length 0=some 0:=fun l hl=>by
       rw[hl];rfl
      obtain⟨ds,D⟩:∃ds,ds=[Dat.str x.1,.int x.2.l,.int x.2.b,.int x.2.r,.int x.2.t]:=⟨_,rfl⟩;have er:aF x=.tup ds:=by rw[D];rfl
      have Q:ds.length=5:=by rw[D];rfl
      have eL:Dat.tup (ds.set (k+2) (.int c))=aF (x.1,kI k c x.2):=by
       rw[D]
       rcases i with rfl|rfl<;>rfl
      have eU:Dat.tup ((ds.set 0 (.str nm)).set k (.int c))=aF (nm,mU k c x.2):=by
       rw[D]
       rcases i with rfl|rfl<;>rfl
      clear D;rw[er];refine' aj (aH (Z2:=[.io (pD d),.dat (aK rs),.dat (.str nm),.dat (.int at_),.dat (.int k),.dat (.tup ds),.dat (.lst (Ls.map .int)),.dat (.int c),.own (.lst ds),.no]) (aZ (ae rfl ak) rfl) rfl (aq ?_));refine' aj ⟨_,gU (tR (Z3:=[.io (pD d),.dat (aK rs),.dat (.str nm),.dat (.int at_),.dat (.int k),.dat (.tup ds),.dat (.lst (Ls.map .int)),.dat (.int c),.own (.lst (ds.set (k+2) (.int c))),.no]) rfl rfl (ah (au rfl rfl rfl) rfl) rfl (n1 ds Q) rfl),aq ?_⟩;refine' aj (aH (Z2:=[.io (pD d),.dat (aK rs),.dat (.str nm),.dat (.int at_),.dat (.int k),.dat (.tup ds),.dat (.lst (Ls.map .int)),.dat (.int c),.own (.lst (ds.set (k+2) (.int c))),.own (.lst ds)]) (aZ (ae rfl ak) rfl) rfl (aq ?_));refine' aj ⟨_,gU (tR (Z3:=[.io (pD d),.dat (aK rs),.dat (.str nm),.dat (.int at_),.dat (.int k),.dat (.tup ds),.dat (.lst (Ls.map .int)),.dat (.int c),.own (.lst (ds.set (k+2) (.int c))),.own (.lst (ds.set 0 (.str nm)))]) rfl rfl rfl rfl (n0 ds Q) rfl),aq ?_⟩;refine' aj ⟨_,gU (tR (Z3:=[.io (pD d),.dat (aK rs),.dat (.str nm),.dat (.int at_),.dat (.int k),.dat (.tup ds),.dat (.lst (Ls.map .int)),.dat (.int c),.own (.lst (ds.set (k+2) (.int c))),.own (.lst ((ds.set 0 (.str nm)).set k (.int c)))]) rfl rfl rfl rfl (O _ (by rw[zb];exact Q)) rfl),aq ?_⟩
      have RG:gC (aK rs) none (some (at_:Int))=some (.own (.lst ((rs.take at_).map aF))):=by
       show some (Res.own (.lst (cutD (rs.map aF) none (some (at_:Int)))))=_;rw[pV,V4]
      have RH:gC (aK rs) (some ((at_:Int)+1)) none=some (.own (.lst ((rs.drop (at_+1)).map aF))):=by
       show some (Res.own (.lst (cutD (rs.map aF) (some ((at_+1:Nat):Int)) none)))=_;rw[tX,V5]
      have ad:∀(a b:Fl),a.length<=20->b.length<=20->fK (.lst (a.map aF)) (.lst (b.map aF))=some (.own (.lst ((a++b).map aF))):=fun a b h1 h2=>by
       rw[eW];exact if_pos (by rw[a7,a7];unfold dk;omega)
      have V:(rs.take at_).length<=8:=by rw[l5];omega
      have t2:(rs.drop (at_+1)).length<=8:=by rw[se];omega
      have s1:1<=sizeLine:=by unfold dk;decide
      have cL:qj [.lst (ds.set (k+2) (.int c))]=some (.dat (aF (x.1,kI k c x.2))):=by rw[<-eL];rfl
      have cU:qj [.lst ((ds.set 0 (.str nm)).set k (.int c))]=some (.dat (aF (nm,mU k c x.2))):=by rw[<-eU];rfl
      have a1:=ad (rs.take at_) [(x.1,kI k c x.2)] (by omega) (by simp)
      have a2:=ad (rs.take at_++[(x.1,kI k c x.2)]) (rs.drop (at_+1)) (by rw[eH];simp;omega) (by omega)
      have a3:=ad (rs.take at_++[(x.1,kI k c x.2)]++rs.drop (at_+1)) [(nm,mU k c x.2)] (by rw[eH,eH];simp;omega) (by simp)
      generalize ds.set (k+2) (.int c)=dl at *;generalize (ds.set 0 (.str nm)).set k (.int c)=du at *;refine' aj (cg (au (ah (au (ah (au (ah (nB rfl rfl RG) rfl) (ah (bL (ae (ah (aZ (ae rfl ak) cL) rfl) ak) s1) rfl) a1) rfl) (ah (tI rfl (ah (au rfl rfl rfl) rfl) RH) rfl) a2) rfl) (ah (bL (ae (ah (aZ (ae rfl ak) cU) rfl) ak) s1) rfl) a3) (fL ⟨_,_,_,rfl,rfl,rs.take at_++[(x.1,kI k c x.2)]++rs.drop (at_+1)++[(nm,mU k c x.2)],d,rfl,rfl,?_,.inr ?_⟩))
      ·have e:=xT ex;have g':=g;rw[e] at g';refine g'.cut i (by omega) (by omega) (fun y B=>?_) nm
       rw[<-e] at B;rw[<-hL] at C;exact⟨fun z=>C (et.mpr (.inl (bg.mpr ⟨y,B,z⟩))),fun z=>C (et.mpr (.inr (bg.mpr ⟨y,B,z⟩)))⟩
      ·have e:=xT ex;rw[eW];refine (XU nm _).trans (List.Perm.cons nm (List.Perm.of_eq ?_))
       conv=>rhs;rw[e]
       simp
theorem Gd.top{o:Ob}{rs:Fl}(b:Bd o)(g:Gd o rs):∃z∈rs,z.2.r=o.r/\z.2.t=o.t:=by
 unfold Bd at b;obtain⟨y,a,k1,k2,k3,k4⟩:=filled (W:=o.r.toNat) (H:=o.t.toNat) (x:=o.r-1) (y:=o.t-1) (fun p d=>by
  have:=g.c.aG p d;exact⟨by omega,by omega,by omega,by omega,by omega,by omega⟩) g.c.ap (by
  rw[g.c.ar];delta Ob.eY;rw[b.1,b.2.1,VN,VN,Rr (by omega),Rr (by omega)]) (by omega) (by omega) (by omega) (by omega)
 have:=g.c.aG y a;obtain⟨z,e,rfl⟩:=bg.mp a;exact⟨z,e,by omega,by omega⟩
theorem Gd.Em{o:Ob}{rs:Fl}(b:Bd o)(g:Gd o rs):cQ rs=o.r/\cN rs=o.t:=by
 obtain⟨z,e,f,h⟩:=g.top b;have i:=fun x a=>g.c.aG x a
 constructor
 ·refine CL (fun x a=>?_) (bg.mpr ⟨z,e,f⟩)
  obtain⟨y,d,rfl⟩:=bg.mp a;exact (i _ (bg.mpr ⟨y,d,rfl⟩)).2.2.1
 ·refine CL (fun x a=>?_) (bg.mpr ⟨z,e,h⟩)
  obtain⟨y,d,rfl⟩:=bg.mp a;exact (i _ (bg.mpr ⟨y,d,rfl⟩)).2.2.2.2.2
structure Drawn (rs:Fl):Prop where
 fl:bD rs
 mt:qF rs=false
 ok:Fg rs
theorem Gd.drawn{o:Ob}{rs:Fl}(b:Bd o)(g:Gd o rs)(k:rs.length<=8)(d:∀x∈rs,cF x.1=true)(nd:(rs.map (·.1)).Nodup):Drawn rs:=by
 obtain⟨m,n⟩:=g.Em b;obtain⟨z,j,_⟩:=g.top b;have i:∀x∈rs,o.l<=x.2.l/\x.2.l<x.2.r/\x.2.r<=o.r/\o.b<=x.2.b/\x.2.b<x.2.t/\x.2.t<=o.t:=fun x a=>g.c.aG x.2 (bg.mpr ⟨x,a,rfl⟩)
 have q:=b;unfold Bd at q;refine⟨⟨fun e=>(by rw[e] at j;cases j),k,d,fun x a=>?_,nd,gj.mp g.c.ap,?_⟩,?_,⟨fun x a=>sI (d x a),fun x a=>?_,by lia⟩⟩
 ·have:=i x a;omega
 ·have:=g.c.ar;rw[fk] at this;delta u7;simp only[m,n,show (fun x:eA×Ob=>x.2.eY)=(Ob.eY ∘ fun x:eA×Ob=>x.2) from rfl,this]
  delta Ob.eY;simp only[b.1,b.2.1,VN]
 ·delta qF;rw[decide_eq_false_iff_not];rintro⟨p,_,h⟩;exact absurd (g.f p) (Nat.not_le.mpr h)
 ·have:=i x a;omega
def mi(W:Int)(o:Ob):Ob:=⟨W-o.r,o.b,W-o.l,o.t⟩
theorem Gd.xE{o:Ob}{rs:Fl}(b:Bd o)(g:Gd o rs):Gd o (rs.map fun y=>(y.1,mi o.r y.2)):=by
 have e:(rs.map fun y=>(y.1,mi o.r y.2)).map (·.2)=(rs.map (·.2)).map (mi o.r):=by rw[fk,fk];rfl
 delta Bd at b;constructor
 ·rw[e];refine⟨fun x a=>?_,?_,?_⟩
  ·obtain⟨y,d,rfl⟩:=bg.mp a;have:=g.c.aG y d;dsimp only[mi];omega
  ·refine gj.mpr (g.c.ap.imp fun {x y} h=>?_)
   unfold Apart at h ⊢;dsimp only[mi]
   lia
  ·rw[fk,<-g.c.ar];congr 1;refine pA fun x _=>?_
   show (o.r-x.l-(o.r-x.r))*(x.t-x.b)=(x.r-x.l)*(x.t-x.b);congr 1
   lia
 ·rw[e];exact g.f.xE o.r
theorem Gd.one{o:Ob}(x:eA)(h:o.ok):Gd o [(x,o)]:=⟨Cuts.one h,dN.one o h⟩
theorem Gd.perm{o:Ob}{rs a:Fl}(g:Gd o rs)(p:a.Perm rs):Gd o a:=⟨g.c.perm (p.map _),g.f.perm (p.map _)⟩
theorem Gd.Py(a b c d e:eA):Gd ⟨0,0,300,300⟩ [(a,⟨0,0,200,100⟩),(b,⟨200,0,300,200⟩),(c,⟨100,200,300,300⟩),(d,⟨0,100,100,300⟩),(e,⟨100,100,200,200⟩)]:=by
 refine⟨Cuts.E7 (by decide) (by decide) (by decide) (by decide) (by decide) (by decide),fun p=>?_⟩
 have key:∀q∈cW [⟨0,0,200,100⟩,⟨200,0,300,200⟩,⟨100,200,300,300⟩,⟨0,100,100,300⟩,⟨100,100,200,200⟩],(cW [⟨0,0,200,100⟩,⟨200,0,300,200⟩,⟨100,200,300,300⟩,⟨0,100,100,300⟩,⟨100,100,200,200⟩]).count q<=3:=by decide +kernel
 by_cases h:p∈cW [⟨0,0,200,100⟩,⟨200,0,300,200⟩,⟨100,200,300,300⟩,⟨0,100,100,300⟩,⟨100,100,200,200⟩]
 ·exact key p h
 ·show (cW [⟨0,0,200,100⟩,⟨200,0,300,200⟩,⟨100,200,300,300⟩,⟨0,100,100,300⟩,⟨100,100,200,200⟩]).count p<=3;rw[WY.mpr h]
  lia
theorem Jp{a:AF}{Z Z1:DS}{lo n:Int}(h:a Z=some ([.int lo,.int n],Z1))(b:-(2 ^ 62)<=lo/\lo<2 ^ 62/\-(2 ^ 62)<=n/\n<2 ^ 62):pz a Z=some (dn lo n,Z1):=by
 delta pz;rw[h];exact if_pos b
theorem P5{lo n:Int}{k:Nat}{x:Dat}(h:(dn lo n)[k]?=some x):lo+(k:Int)<n/\x=.int (lo+k):=by
 have a:=(bt.mp h).1;unfold dn at a h;rw[eo] at h;rw[a7,nT] at a;rw[VE a] at h;simp at h;exact⟨by omega,h.symm⟩
theorem L8{rs:Fl}(d:rs≠[])(nd:(rs.map (·.1)).Nodup)(h:rs.length<64):lK [aK rs]=some (.own (aK (oX rs))):=by
 have e:dv (rs.map aF)=none:=by
  cases rs with
  | nil=>exact absurd rfl d
  | cons x l=>rfl
 show (match dv (rs.map aF) with
  | some c=>if c.length<64 then some (Res.own (.lst ((br c).map .str))) else none
  | none=>mL [.lst (rs.map aF)])=_
 rw[e];show (firstsD (rs.map aF)).bind _=_;rw[Fd];show (if _ then _ else _)=_
 rw[if_pos ⟨nd,by rw[a7];exact h⟩,Gy rs aF fun a _ b _=>rfl]
 rfl
theorem J9(rs:Fl):(oX rs).Perm rs:=hA _ _
def CP(fn:dI):Prop:=∀p (m:Nat),1<=m->m<=8->∃r a,fn (pD p) [.int m]=some (r,a)/\∃(rs:Fl) (b:Int×Int),r=.own (aK rs)/\a=pD b/\Drawn rs
theorem La(T:Txt mg)(p1:bj P w K mg base "_law_draw" 1 (cO K 0 gV)){RI:dI}(p2:bj P w K mg base "_law_names" 2 (cO K 0 RI))(s2:Al RI){RJ:dI}(p3:bj P w K mg base "_law_cut" 2 (cO K 0 RJ))(s3:Ei RJ){f:dR}{fd:hQ}(F:bf K "_law_floor" "_law_floor" wd f fd):∃fn,aO P w K mg base bh 3 f fd ["_law_purse_here","_law_most"] (cO K 0 fn)/\CP fn:=by
 refine' l9 F Bh rfl ?hb ?post
 case hb =>
  intro cdv A outer s H E hr;have nd:=Bh.nd;cases T;have lk:jE "_law_purse_here":=⟨trivial⟩
  walk_at "S"
 case post =>
  intro p m m1 m8;refine' lP rfl ?w
  case w =>
   obtain⟨r,c1,e1,a,q1,rfl,rfl,hl,RY,RK⟩:=s2 p m m8;have U:∀j:Nat,j<m->∃x,a[j]?=some x/\cu (.lst (a.map .str)) (.int (j:Int))=some (.str x):=fun j hj=>by
    have RL:j<a.length:=by omega
    refine⟨a[j],cA RL,?_⟩;exact lE (by rw[eo,cA RL];rfl)
   refine' aj (aH (cR rfl (ae rfl ak) rfl e1 rfl) rfl (aq ?_));obtain⟨D,w0,i0⟩:=U 0 (by lia)
   obtain⟨G,q2,t2,a2,b2⟩:=eO q1 (m:=400) (by decide) (by decide)
   obtain⟨I,q3,B,a3,b3⟩:=eO q2 (m:=400) (by decide) (by decide)
   have s1:1<=sizeLine:=by unfold dk;decide
   have J:5<=sizeLine:=by unfold dk;decide
   refine' aj (aH (bL (ae (fx (ae (bA rfl rfl rfl i0) (ae rfl (ae rfl (ae (ah (au rfl (ah (cR rfl (ae rfl ak) rfl t2 rfl) rfl) rfl) rfl) (ae (ah (au rfl (ah (cR rfl (ae rfl ak) rfl B rfl) rfl) rfl) rfl) ak))))) J) ak) s1) rfl (aq ?_));obtain⟨c,q4,t4,a4,b4⟩:=eO q3 (m:=(m:Int)) (by omega) (by omega)
   refine' aj (aH (au rfl (ah (cR rfl (ae rfl ak) rfl t4 rfl) rfl) rfl) rfl (aq ?_));have tk:∀{j:Nat}{x:eA},a[j]?=some x->a.take (j+1)=a.take j++[x]:=fun {j x} e=>gK e
   refine' aj (WS.mono (Q:=fun u=>∃(q:Int×Int) (rs:Fl) (o:Ob),u=.next [.io (pD q),.dat (.int m),.own (.lst (a.map .str)),.own (aK rs),.dat (.int (1+c)),.no,.no]/\Bd o/\Gd o rs/\rs.map (·.1)=a.take rs.length/\1<=rs.length/\rs.length<=m) ?first ?L)
   case first =>
    have dflt:∀q,∃(V:Int×Int) (rs:Fl) (o:Ob),Out.next [.io (pD q),.dat (.int m),.own (.lst (a.map .str)),.own (aK [(D,⟨0,0,600+G,600+I⟩)]),.dat (.int (1+c)),.no,.no]=.next [.io (pD V),.dat (.int m),.own (.lst (a.map .str)),.own (aK rs),.dat (.int (1+c)),.no,.no]/\Bd o/\Gd o rs/\rs.map (·.1)=a.take rs.length/\1<=rs.length/\rs.length<=m:=fun q=>⟨q,_,⟨0,0,600+G,600+I⟩,rfl,⟨rfl,rfl,show 0<600+G by omega,show 600+G<=999 by omega,show 0<600+I by omega,show 600+I<=999 by omega⟩,Gd.one D ⟨show 0<600+G by omega,show 0<600+I by omega⟩,by
     have:=tk w0;rw[XT] at this;exact this.symm,eB _,m1⟩
    obtain⟨v5,q5,v,a5,b5⟩:=eO q4 (m:=2) (by decide) (by decide)
    have g4:fF (cw (fU (fun _ _=>true) fun i j=>Dat.bl (decide (j<i))) (cC 4) (fC (.int 4))) [.io (pD q4),.dat (.int m),.own (.lst (a.map .str)),.own (aK [(D,⟨0,0,600+G,600+I⟩)]),.dat (.int (1+c)),.no,.no]=some (decide (4<1+c),_):=cb (au rfl rfl rfl)
    refine' vU (BI (rT g4 ⟨fun h=>?_,fun _=>⟨nofun,fun _=>bC (dflt q4)⟩⟩))
    have h:4<1+c:=of_decide_eq_true h;refine' rT (cb (au (ah (cR rfl (ae rfl ak) rfl v rfl) rfl) rfl (eq_int _ _))) ⟨fun _=>?_,fun _=>bC (dflt q5)⟩
    obtain⟨x1,w1,i1⟩:=U 1 (by omega)
    obtain⟨x2,w2,i2⟩:=U 2 (by omega)
    obtain⟨x3,w3,i3⟩:=U 3 (by omega)
    obtain⟨x4,w4,i4⟩:=U 4 (by omega)
    have s3:3<=sizeLine:=by unfold dk;decide
    have s2:2<=sizeLine:=by unfold dk;decide
    refine' aj (aH (Z2:=[.io (pD q5),.dat (.int m),.own (.lst (a.map .str)),.own (aK [(D,⟨0,0,200,100⟩),(x1,⟨200,0,300,200⟩),(x2,⟨100,200,300,300⟩)]),.dat (.int (1+c)),.no,.no]) (bL (ae (fx (ae (bA rfl rfl rfl i0) rfl) J) (ae (fx (ae (bA rfl rfl rfl i1) rfl) J) (ae (fx (ae (bA rfl rfl rfl i2) rfl) J) ak))) s3) rfl (aq ?_));refine' aj (aH (Z2:=[.io (pD q5),.dat (.int m),.own (.lst (a.map .str)),.own (aK [(D,⟨0,0,200,100⟩),(x1,⟨200,0,300,200⟩),(x2,⟨100,200,300,300⟩),(x3,⟨0,100,100,300⟩),(x4,⟨100,100,200,200⟩)]),.dat (.int (1+c)),.no,.no]) (au rfl (ah (bL (ae (fx (ae (bA rfl rfl rfl i3) rfl) J) (ae (fx (ae (bA rfl rfl rfl i4) rfl) J) ak)) s2) rfl) rfl) rfl (aq (bC ?_)));refine⟨q5,_,⟨0,0,300,300⟩,rfl,⟨rfl,rfl,by decide,by decide,by decide,by decide⟩,Gd.Py D x1 x2 x3 x4,?_,by simp,by simp;omega⟩
    show [D,x1,x2,x3,x4]=a.take 5;rw[tk w4,tk w3,tk w2,tk w1,tk w0];rfl
   case L =>
    rintro _ ⟨q,b,o,rfl,bo,g0,en,l1,lm⟩;refine' aq ?_;have ln:cD (aK b)=some b.length:=by simp[aK,cD]
    refine' aj (gb (fun k Z=>∃(q:Int×Int) (rs:Fl) (B v:Slot),Z=[.io (pD q),.dat (.int m),.own (.lst (a.map .str)),B,.dat (.int (1+c)),v,.no]/\Hd B (aK rs)/\Fr v/\Gd o rs/\1<=rs.length/\rs.length<=b.length+k/\(rs.map (·.1)).Nodup/\∀y∈rs.map (·.1),y∈a.take (b.length+k)) (Jp (ae (eG rfl ln) (ae rfl ak)) ⟨by omega,by omega,by omega,by omega⟩) ⟨q,b,_,_,rfl,.inl rfl,.inl rfl,g0,l1,eB _,by rw[en];exact mu (W5 _ _) RK,fun y M=>by rw[en] at M;exact M⟩ ?st ?fin)
    case st =>
     rintro k x hx _ ⟨q,rs,B,v,rfl,h3,f5,g,W,RM,X,C⟩;obtain⟨hk,rfl⟩:=P5 hx;obtain⟨x,wx,ix⟩:=U (b.length+k) (by omega)
     have ix:cu (.lst (a.map .str)) (.int ((b.length:Int)+k))=some (.str x):=ix;refine⟨[.io (pD q),.dat (.int m),.own (.lst (a.map .str)),B,.dat (.int (1+c)),.dat (.int ((b.length:Int)+k)),.no],by rcases f5 with rfl|⟨d,rfl⟩<;>rfl,?_⟩
     obtain⟨r,c1,ec,l,V,er,rfl,g',R⟩:=s3 q rs x o bo g W (by omega)
     have f3:cC 3 [.io (pD q),.dat (.int m),.own (.lst (a.map .str)),B,.dat (.int (1+c)),.dat (.int ((b.length:Int)+k)),.no]=some (aK rs,[.io (pD q),.dat (.int m),.own (.lst (a.map .str)),.dat (aK rs),.dat (.int (1+c)),.dat (.int ((b.length:Int)+k)),.no]):=by rcases h3 with rfl|rfl<;>rfl
     have tw:=tk wx;have nx:x∉a.take (b.length+k):=fun z=>by
      have:=mu (W5 (b.length+k+1) a) RK;rw[tw,Vy] at this;exact this.2.2 x z x (by simp) rfl
     have key:∃t,kc 3 r [.io (pD V),.dat (.int m),.own (.lst (a.map .str)),.dat (aK rs),.dat (.int (1+c)),.dat (.int ((b.length:Int)+k)),.no]=some [.io (pD V),.dat (.int m),.own (.lst (a.map .str)),t,.dat (.int (1+c)),.dat (.int ((b.length:Int)+k)),.no]/\Hd t (aK l):=by
      cases r with
      | dat d=>exact⟨_,rfl,.inr (by rw[<-er];rfl)⟩
      | own d=>exact⟨_,rfl,.inl (by rw[<-er];rfl)⟩
     obtain⟨t,e3,Y⟩:=key;refine' aj (aH (cR rfl (ae f3 (ae (bA rfl rfl rfl ix) ak)) rfl ec rfl) e3 (aq (bC ⟨V,l,t,_,rfl,Y,.inr ⟨_,rfl⟩,g',?_,?_,?_,?_⟩)))
     ·rcases R with rfl|N
      ·exact W
      ·have:=N.length_eq;rw[a7,f'] at this;omega
     ·rcases R with rfl|N
      ·omega
      ·have:=N.length_eq;rw[a7,f',a7] at this;omega
     ·rcases R with rfl|N
      ·exact X
      ·exact N.nodup_iff.mpr (me.mpr ⟨fun z=>nx (C x z),X⟩)
     ·intro y M;show y∈a.take (b.length+k+1);rw[tw,et]
      rcases R with rfl|N
      ·exact .inl (C y M)
      ·rcases ey.mp (N.mem_iff.mp M) with rfl|z
       ·exact .inr (by simp)
       ·exact .inl (C y z)
    case fin =>
     rintro _ ⟨q,rs,B,v,rfl,h3,f5,g,W,RM,X,C⟩;have hlen:(dn (b.length:Int) (1+c)).length<=8-b.length:=by unfold dn;rw[a7,nT];omega
     have h8:rs.length<=8:=by omega
     have R7:∀y∈rs.map (·.1),cF y=true:=fun y M=>RY y (YH (C y M))
     clear C RM;obtain⟨v6,O,t6,a6,b6⟩:=eO q (m:=2) (by decide) (by decide)
     refine' aq (aj (WS.mono (Q:=fun u=>∃(l:Fl) (t t6:Slot),u=.next [.io (pD O),.dat (.int m),.own (.lst (a.map .str)),t,.dat (.int (1+c)),v,t6]/\Hd t (aK l)/\Gd o l/\l.map (·.1)=rs.map (·.1)) (gy (cb (au (ah (cR rfl (ae rfl ak) rfl t6 rfl) rfl) rfl (eq_int _ _))) ?yes ?no) ?L))
     case no=>exact fun _=>bC ⟨rs,B,_,rfl,h3,g,rfl⟩
     case yes =>
      intro _;have sz:rs.length<=sizeLine:=by unfold dk;omega
      have f3:alt (jg (cC 3)) (jN (cC 3)) [.io (pD O),.dat (.int m),.own (.lst (a.map .str)),B,.dat (.int (1+c)),v,.no]=some (rs.map aF,[.io (pD O),.dat (.int m),.own (.lst (a.map .str)),.dat (aK rs),.dat (.int (1+c)),v,.no]):=dy (by rcases h3 with rfl|rfl<;>rfl)
      have mx:gR (rs.map fun y=>y.2.r)=o.r:=(g.Em bo).1
      have bm:=NS (fun y:eA×Ob=>y.2.r) (cs:=rs) (fun e=>by rw[e] at W;simp at W)
      rw[mx] at bm;refine' aj (aH (Z2:=[.io (pD O),.dat (.int m),.own (.lst (a.map .str)),.dat (aK rs),.dat (.int (1+c)),v,.dat (.int o.r)]) (aZ (ae (ah (gZ (enc:=aF) (xs:=rs) (fun y=>[.no,.dat (aF y)]) (fun y=>.int y.2.r) f3 rfl sz ?a1 (fun y _=>bA rfl rfl rfl rfl) (fun _ _=>rfl)) rfl) ak) bm) rfl (aq ?_))
      case a1=>rintro y _ Z (rfl|⟨z,rfl⟩)<;>rfl
      refine' aj (aH (Z2:=[.io (pD O),.dat (.int m),.own (.lst (a.map .str)),.own (aK (rs.map fun y=>(y.1,mi o.r y.2))),.dat (.int (1+c)),v,.dat (.int o.r)]) (gZ (enc:=aF) (xs:=rs) (fun y=>[.no,.dat (aF y),.dat (.int o.r)]) (fun y=>aF (y.1,mi o.r y.2)) (dy rfl) rfl sz ?a2 (fun y _=>fx (ae (bA rfl rfl rfl rfl) (ae (ah (au rfl (bA rfl rfl rfl rfl) rfl) rfl) (ae (bA rfl rfl rfl rfl) (ae (ah (au rfl (bA rfl rfl rfl rfl) rfl) rfl) (ae (bA rfl rfl rfl rfl) ak))))) J) (fun _ _=>rfl)) ?a3 (aq (bC ⟨_,_,_,rfl,.inl rfl,g.xE bo,?a4⟩)))
      case a2=>rintro y _ Z (rfl|⟨z,rfl⟩)<;>rfl
      case a3=>unfold aK;rw[fk];rfl
      case a4=>rw[fk];rfl
     case L =>
      rintro _ ⟨l,t,R8,rfl,Y,g',S⟩;have RN:l.length=rs.length:=by have:=congrArg List.length S;rw[a7,a7] at this;exact this
      have pm:=J9 l;refine' aq (aj (cg (gU (aZ (ae (Z1:=[.io (pD O),.dat (.int m),.own (.lst (a.map .str)),.dat (aK l),.dat (.int (1+c)),v,R8]) ?b1 ak) (L8 (fun e=>by rw[e] at RN;simp at RN;omega) (by rw[S];exact X) (by omega)))) (fL ⟨_,_,_,rfl,rfl,oX l,O,rfl,rfl,(g'.perm pm).drawn bo (by rw[pm.length_eq];omega) (fun x hx=>R7 _ (by rw[<-S];exact bg.mpr ⟨x,pm.mem_iff.mp hx,rfl⟩)) ((pm.map _).nodup_iff.mpr (by rw[S];exact X))⟩)))
      case b1=>rcases Y with rfl|rfl<;>rfl
def B9(fn:bc):Prop:=∀(x y:eA×Ob) (k:Nat),k=1\/k=2->x.2.ok->y.2.ok->fn [aF x,aF y,.int (k:Int)]=some (.dat (.bl (dU k x.2 y.2)))
theorem J0{k:Nat}(a:k=1\/k=2){x y:Ob}(c:x.ok)(d:y.ok):decide ((if co k y>co k x then co k y else co k x)<(if co (k+2) y<co (k+2) x then co (k+2) y else co (k+2) x))=dU k x y:=by
 delta Ob.ok at c d;rw[n4,decide_eq_true_eq]
 rcases a with rfl|rfl
 ·show (if y.l>x.l then y.l else x.l)<(if y.r<x.r then y.r else x.r) ↔ (decide (x.l<y.r)&&decide (y.l<x.r))=true
  simp;split<;>split<;>omega
 ·show (if y.b>x.b then y.b else x.b)<(if y.t<x.t then y.t else x.t) ↔ (decide (x.b<y.t)&&decide (y.b<x.t))=true
  simp;split<;>split<;>omega
theorem K'(T:Txt mg){f:dR}{a:hQ}(F:bf K "_law_meets" "_law_meets" wV f a):∃fn,aO P w K mg base bh 1 f a ["_law_one","_law_other","_law_low"] (aY K fn)/\B9 fn:=by
 refine' df F Dn rfl ?C ?B
 case C =>
  intro cdv A outer s H E hr;cases T
  walk_at "S"
 case B =>
  intro x y k d e g;have b:∀y,cu (aF y) (.int (k:Int))=some (.int (co k y.2)):=fun y=>mw y (by lia)
  have c:∀y,cu (aF y) (.int ((k:Int)+2))=some (.int (co (k+2) y.2)):=fun y=>mw y (k:=k+2) (by omega)
  refine' dS rfl ?w
  case w =>
   refine' aj (cg (au (ah (aZ (ae (bA rfl rfl rfl (b x)) (ae (bA rfl rfl rfl (b y)) ak)) rfl) rfl) (ah (aZ (ae (bA rfl (ah (au rfl rfl rfl) rfl) rfl (c x)) (ae (bA rfl (ah (au rfl rfl rfl) rfl) rfl (c y)) ak)) rfl) rfl) ?_) (fL ⟨_,rfl⟩));rw[<-J0 d e g];rfl
noncomputable def bJ(k:Nat):Nat:=if k=0\/k=2 then 2 else 1
noncomputable def iD(k:Nat):Int:=if k<2 then 1 else -1
def fX(rs:Fl)(x:Ob)(k:Nat):List (Int×eA):=(rs.filter fun y=>cp k x y.2).map fun y=>(co (3-bJ k) y.2,y.1)
def pX(k:Nat)(x y:Ob):Bool:=if k<2 then decide (co (bJ k+2) x=co (bJ k) y) else decide (co (bJ k) x=co (bJ k+2) y)
theorem NZ{k:Nat}(c:k<4)(x y:Ob):cp k x y=(pX k x y&&dU (3-bJ k) x y):=by
 have c:k=0\/k=1\/k=2\/k=3:=by omega
 rcases c with rfl|rfl|rfl|rfl
 ·show (decide (y.b=x.t)&&dU 1 x y)=(decide (x.t=y.b)&&dU 1 x y);rw[decide_eq_decide.mpr (eq_comm)]
 ·show (decide (y.l=x.r)&&dU 2 x y)=(decide (x.r=y.l)&&dU 2 x y);rw[decide_eq_decide.mpr (eq_comm)]
 ·show (decide (y.t=x.b)&&dU 1 x y)=(decide (x.b=y.t)&&dU 1 x y);rw[decide_eq_decide.mpr (eq_comm)]
 ·show (decide (y.r=x.l)&&dU 2 x y)=(decide (x.l=y.r)&&dU 2 x y);rw[decide_eq_decide.mpr (eq_comm)]
def BV(fn:bc):Prop:=∀(rs:Fl) (x:eA×Ob) (k:Nat),k<4->rs.length<64->x.2.ok->(∀y∈rs,y.2.ok)->((fX rs x.2 k).map (·.1)).Nodup->fn [aK rs,aF x,.int (bJ k:Int),.int (iD k)]=some (.own (.lst (((cY (fX rs x.2 k)).map (·.2)).map .str)))
theorem M3{fa:AF}{Z Z1:DS}{l:List (Int×eA)}(b:(l.map (·.1)).Nodup)(c:l.length<64)(a:fa Z=some ([.lst (l.map eQ)],Z1)):alt (bY lK fa) (alt (bY qq fa) (bY tf fa)) Z=some (.own (.lst ((cY l).map eQ)),Z1):=by
 cases l with
 | nil =>
  refine gU (aZ a ?_);have:cY []=[]:=by unfold cY;simp
  rw[this];refine (wH (l:=[]) (by decide)).trans ?_
  rw[show br []=[] by unfold br;simp]
  rfl
 | cons p l =>
  refine xS ?_ (gU (aZ a (HX b c)));delta bY;rw[a];rfl
theorem FI(T:Txt mg){l:bc}(N:bj P w K mg base "_law_meets" 1 (aY K l))(O:B9 l){f:dR}{r:hQ}(F:bf K "_law_side" "_law_side" vQ f r):∃fn,aO P w K mg base bh 2 f r ["_law_rows","_law_one","_law_low","_law_way"] (aY K fn)/\BV fn:=by
 refine' df F B1 rfl ?Q ?B
 case Q =>
  intro cdv A outer s H E hr;cases T
  walk_at "S"
 case B =>
  intro rs x k R S U V W;refine' dS rfl ?w
  case w =>
   have hl:bJ k=1\/bJ k=2:=by unfold bJ;split<;>simp
   have t:∀y,cu (aF y) (.int (bJ k:Int))=some (.int (co (bJ k) y.2)):=fun y=>mw y (by omega)
   have u:∀y,cu (aF y) (.int ((bJ k:Int)+2))=some (.int (co (bJ k+2) y.2)):=fun y=>mw y (k:=bJ k+2) (by omega)
   have v:(3:Int)-(bJ k:Int)=((3-bJ k:Nat):Int):=by omega
   have X:∀y,cu (aF y) (.int ((3:Int)-(bJ k:Int)))=some (.int (co (3-bJ k) y.2)):=fun y=>by rw[v];exact mw y (by lia)
   have Y:mC [.bl (decide (iD k=1))]=some (.dat (.int (if k<2 then 1 else 0))):=by
    delta iD
    by_cases h:k<2
    ·rw[if_pos h,if_pos h];rfl
    ·rw[if_neg h,if_neg h];rfl
   refine' aj (aH (bL ak (ro _)) rfl (aq ?_));have fs:∀j y,rs[j]?=some y->(((rs.take (j+1)).filter fun y=>cp k x.2 y.2).map fun y:eA×Ob=>eQ (co (3-bJ k) y.2,y.1))=(((rs.take j).filter fun y=>cp k x.2 y.2).map fun y:eA×Ob=>eQ (co (3-bJ k) y.2,y.1))++(if cp k x.2 y.2 then [eQ (co (3-bJ k) y.2,y.1)] else []):=fun j y e=>by
    rw[gK e,Y8,eW];congr 1
    by_cases h:cp k x.2 y.2=true
    ·rw[if_pos h,P',if_pos h];rfl
    ·rw[if_neg h,P',if_neg h];rfl
   refine' aj (gb (fun j Z=>∃c a,Fr c/\Fr a/\Z=[.dat (aK rs),.dat (aF x),.dat (.int (bJ k)),.dat (.int (iD k)),.own (.lst (((rs.take j).filter fun y=>cp k x.2 y.2).map fun y:eA×Ob=>eQ (co (3-bJ k) y.2,y.1))),c,a]) (dy rfl) ⟨_,_,.inl rfl,.inl rfl,rfl⟩ ?st ?C)
   case st =>
    rintro j d hd _ ⟨c,a,D,G,rfl⟩;rw[eo] at hd;obtain⟨y,I,rfl⟩:=j'.mp hd;have hy:=eR I;rw[fs j y I];have m:(((rs.take j).filter fun y=>cp k x.2 y.2).map fun y:eA×Ob=>eQ (co (3-bJ k) y.2,y.1)).length<sizeLine:=by
     rw[a7];refine U5 (vv _ _) ?_;rw[l5];delta dk;omega
    generalize (((rs.take j).filter fun y=>cp k x.2 y.2).map fun y:eA×Ob=>eQ (co (3-bJ k) y.2,y.1))=g at *
    refine⟨[.dat (aK rs),.dat (aF x),.dat (.int (bJ k)),.dat (.int (iD k)),.own (.lst g),.dat (aF y),a],by rcases D with rfl|⟨d,rfl⟩<;>rfl,?_⟩
    have pick:cu (.lst [.bl (decide (co (bJ k) x.2=co (bJ k+2) y.2)),.bl (decide (co (bJ k+2) x.2=co (bJ k) y.2))]) (.int (if k<2 then 1 else 0))=some (.bl (pX k x.2 y.2)):=by
     delta pX
     by_cases h:k<2
     ·rw[if_pos h,if_pos h];rfl
     ·rw[if_neg h,if_neg h];rfl
    have o:=NZ R x.2 y.2;have J:=O x y (3-bJ k) (by omega) U (V y hy)
    rw[<-v] at J;have L:2<=sizeLine:=by unfold dk;decide
    refine' aj (aH (Z2:=[.dat (aK rs),.dat (aF x),.dat (.int (bJ k)),.dat (.int (iD k)),.own (.lst g),.dat (aF y),.dat (.bl (pX k x.2 y.2))]) (v_res (n8 (ah (bL (ae (ah (au (bA rfl rfl rfl (t x)) (bA rfl (ah (au rfl rfl rfl) rfl) rfl (u y)) (eq_int _ _)) rfl) (ae (ah (au (bA rfl (ah (au rfl rfl rfl) rfl) rfl (u x)) (bA rfl rfl rfl (t y)) (eq_int _ _)) rfl) ak)) L) rfl) (ah (aZ (ae (ah (au rfl rfl (eq_int _ _)) rfl) ak) Y) rfl) pick)) ?b1 (aq ?b2))
    case b1=>rcases G with rfl|⟨d,rfl⟩<;>rfl
    case b2 =>
     generalize pX k x.2 y.2=i at *;have no:cp k x.2 y.2=false->∃c a,Fr c/\Fr a/\[.dat (aK rs),.dat (aF x),.dat (.int (bJ k)),.dat (.int (iD k)),.own (.lst g),.dat (aF y),.dat (.bl i)]=[.dat (aK rs),.dat (aF x),.dat (.int (bJ k)),.dat (.int (iD k)),.own (.lst (g++if cp k x.2 y.2=true then [eQ (co (3-bJ k) y.2,y.1)] else [])),c,a]:=fun h=>⟨_,_,.inr ⟨_,rfl⟩,.inr ⟨_,rfl⟩,by rw[h,if_neg (by simp),r4]⟩
     refine' aj (gy (b:=i) (dM rfl rfl) (fun h=>?_) (fun h=>bC (aq (bC (no (by rw[o,h];rfl))))))
     refine' aj (gy (b:=dU (3-bJ k) x.2 y.2) (dM (ah (aZ (ae rfl (ae rfl (ae (ah (au rfl rfl rfl) rfl) ak))) J) rfl) rfl) (fun q=>?_) (fun q=>bC (aq (bC (aq (bC (no (by rw[o,h,q];rfl))))))))
     have e:cp k x.2 y.2=true:=by rw[o,h,q];rfl
     refine' aj (mY (mH (d:=eQ (co (3-bJ k) y.2,y.1)) rfl (ae (fx (ae (bA rfl (ah (au rfl rfl rfl) rfl) rfl (X y)) (ae (bA rfl rfl rfl rfl) ak)) L) ak) m) (aq (bC (aq (bC (aq (bC ⟨.dat (aF y),.dat (.bl i),.inr ⟨aF y,rfl⟩,.inr ⟨.bl i,rfl⟩,?_⟩)))))));rw[if_pos e];rfl
   case C =>
    rintro _ ⟨c,a,D,G,rfl⟩;rw[a7,t9];have ep:((rs.filter fun y=>cp k x.2 y.2).map fun y:eA×Ob=>eQ (co (3-bJ k) y.2,y.1))=(fX rs x.2 k).map eQ:=by unfold fX;rw[fk];rfl
    have M:(fX rs x.2 k).length<64:=by
     unfold fX;rw[a7];exact U5 (vv _ _) S
    rw[ep];have e2:=M3 (fa:=dJ (cC 4) fO) (Z:=[.dat (aK rs),.dat (aF x),.dat (.int (bJ k)),.dat (.int (iD k)),.own (.lst ((fX rs x.2 k).map eQ)),c,a]) W M (ae rfl ak);refine' aq (aj (cg (gZ (enc:=eQ) (xs:=cY (fX rs x.2 k)) (fun p=>[.no,.dat (.int p.1),.dat (.str p.2)]) (fun p=>.str p.2) (dy (ah e2 rfl)) rfl ?b3 ?b4 (fun _ _=>rfl) (fun _ _=>rfl)) (fL ?b9)))
    case b3=>rw[x8];unfold dk;omega
    case b4=>rintro y _ Z (rfl|⟨z,rfl⟩)<;>rfl
    case b9 =>
     rw[fk];exact⟨_,rfl⟩
def bN(rs:Fl)(x:Ob)(k:Nat):List Str:=if (cY (fX rs x k)).map (·.2)=[] then [ay k] else (cY (fX rs x k)).map (·.2)
theorem sJ{f g:DF}{Z Z1:DS}{l:List eA}{x:eA}(h:f Z=some (.lst (l.map .str),Z1))(b:g Z1=some (.lst [.str x],Z1)):nG f g Z=some (.lst ((if l=[] then [x] else l).map .str),Z1):=by
 delta nG;rw[h];cases l with
 | nil=>exact b
 | cons a l=>rfl
theorem Dk{f g:DF}{Z Z1 Z2:DS}{ds:List Dat}(h:f Z=some (.lst ds,Z1))(a:g Z1=some (.int (-1),Z2)):r8 f g Z=some (.own (.lst ds.reverse),Z2):=by
 delta r8;rw[h];show (g Z1).bind _=_;rw[a];rfl
theorem tq(a b:List eA)(h1:a.length<=1000)(h2:b.length<=1000):fK (.lst (a.map .str)) (.lst (b.map .str))=some (.own (.lst ((a++b).map .str))):=by
 rw[eW];exact if_pos (by rw[a7,a7];unfold dk;omega)
theorem F7{rs:Fl}(x:Ob)(k:Nat)(h:rs.length<64):(bN rs x k).length<=100:=by
 delta bN;split
 ·simp
 ·rw[a7,x8];delta fX;rw[a7];exact sq (vv _ _) (by lia)
def BX(fn:bc):Prop:=∀(rs:Fl) (x:eA×Ob),rs.length<64->x.2.ok->(∀y∈rs,y.2.ok)->(∀k,k<4->((fX rs x.2 k).map (·.1)).Nodup)->fn [aK rs,aF x]=some (.own (.lst ((bN rs x.2 0++(bN rs x.2 1).reverse++(bN rs x.2 2).reverse++bN rs x.2 3).map .str)))
theorem J1(T:Txt mg){b:bc}(i:bj P w K mg base "_law_side" 2 (aY K b))(j:BV b){f:dR}{c:hQ}(F:bf K "_law_neighbours" "_law_neighbours" vo f c):∃fn,aO P w K mg base bh 3 f c ["_law_rows","_law_one"] (aY K fn)/\BX fn:=by
 refine' df F zk rfl ?I ?G
 case I =>
  intro cdv A outer s H E hr;cases T
  walk_at "S"
 case G =>
  intro rs x d m o p;refine' dS rfl ?w
  case w =>
   have e:=fun k g=>j rs x k g d m o (p k g)
   have l:=fun k=>F7 (rs:=rs) x.2 k d
   have a:1<=sizeLine:=by unfold dk;decide
   refine' aj (aH (v_res (sJ (ah (aZ (ae rfl (ae rfl (ae rfl (ae rfl ak)))) (e 0 (by decide))) rfl) (ah (bL (ae rfl ak) a) rfl))) rfl (aq ?_))
   refine' aj (aH (v_res (sJ (ah (aZ (ae rfl (ae rfl (ae rfl (ae rfl ak)))) (e 1 (by decide))) rfl) (ah (bL (ae rfl ak) a) rfl))) rfl (aq ?_))
   refine' aj (aH (v_res (sJ (ah (aZ (ae rfl (ae rfl (ae rfl (ae rfl ak)))) (e 2 (by decide))) rfl) (ah (bL (ae rfl ak) a) rfl))) rfl (aq ?_))
   refine' aj (aH (Z2:=[.dat (aK rs),.dat (aF x),.dat (.lst ((bN rs x.2 0).map .str)),.dat (.lst ((bN rs x.2 1).map .str)),.dat (.lst ((bN rs x.2 2).map .str)),.dat (.lst ((bN rs x.2 3).map .str))]) (v_res (sJ (ah (aZ (ae rfl (ae rfl (ae rfl (ae rfl ak)))) (e 3 (by decide))) rfl) (ah (bL (ae rfl ak) a) rfl))) rfl (aq ?_))
   have l0:=l 0;have l1:=l 1;have l2:=l 2;have l3:=l 3;generalize bN rs x.2 0=A at *;generalize bN rs x.2 1=B at *;generalize bN rs x.2 2=C at *;generalize bN rs x.2 3=D at *;have a1:=tq A B.reverse (by lia) (by rw[N'];omega)
   have h:=tq (A++B.reverse) C.reverse (by rw[eH,N'];omega) (by rw[N'];omega)
   have q:=tq (A++B.reverse++C.reverse) D (by rw[eH,eH,N',N'];omega) (by omega)
   rw[Zy] at a1 h;exact aj (cg (au (ah (au (ah (au rfl (ah (Dk rfl rfl) rfl) a1) rfl) (ah (Dk rfl rfl) rfl) h) rfl) rfl q) (fL ⟨_,rfl⟩))
def zg(fn:bc):Prop:=∀(rs:Fl),rs.length<64->(∀y∈rs,y.2.ok)->(∀x∈rs,∀k,k<4->((fX rs x.2 k).map (·.1)).Nodup)->fn [aK rs]=some (.own (.lst ((rs.map fun x=>(x.1,bN rs x.2 0++(bN rs x.2 1).reverse++(bN rs x.2 2).reverse++bN rs x.2 3)).map pairD)))
theorem Ri(T:Txt mg){a:bc}(e:bj P w K mg base "_law_neighbours" 3 (aY K a))(g:BX a){f:dR}{b:hQ}(F:bf K "_law_web" "_law_web" wt f b):∃fn,aO P w K mg base bh 4 f b ["_law_rows"] (aY K fn)/\zg fn:=by
 refine' df F yR rfl ?C ?B
 case C =>
  intro cdv A outer s H E hr;cases T
  walk_at "S"
 case B =>
  intro rs h c i;refine' dS rfl ?w
  case w =>
   have sz:rs.length<=sizeLine:=by unfold dk;lia
   have j:2<=sizeLine:=by unfold dk;decide
   refine' aj (cg (gZ (fun y=>[.no,.dat (aF y),.dat (aK rs)]) (fun x=>pairD (x.1,bN rs x.2 0++(bN rs x.2 1).reverse++(bN rs x.2 2).reverse++bN rs x.2 3)) (dy rfl) rfl sz ?a1 (fun y d=>fx (ae (bA rfl rfl rfl rfl) (ae (ah (aZ (ae rfl (ae rfl ak)) (g rs y h (c y d) c (i y d))) rfl) ak)) j) (fun _ _=>rfl)) (fL ?D))
   case a1=>rintro y _ Z (rfl|⟨z,rfl⟩)<;>rfl
   case D =>
    rw[fk];exact⟨_,rfl⟩
theorem Bq{web:aE}(hw:jt web)(bT:1<=web.length/\web.length<=8)(nm:∀p∈web,cF p.1=true):bB web:=by
 refine⟨bT,nm,hw.C.jD,fun p b=>?_⟩
 have a:p.1∈web.map (·.1):=bg.mpr ⟨p,b,rfl⟩;have e:=dz hw.C.jD b;have c:=hw.C.len p.1 a;have d:=hw.C.nd p.1 a;have f:=hw.C.mem p.1 a;have g:=hw.C.fM p.1 a;rw[e] at c d f g;exact⟨c,d,fun n h=>⟨f n h,fun z=>g (z ▸ h)⟩⟩
def rG(web a:aE):Prop:=(a.map (·.1)).Perm (web.map (·.1))/\∀z∈a,∃p∈web,p.1=z.1/\gI p.2 z.2
theorem rG.ok{web a:aE}(t:rG web a)(h:bB web)(hw:jt web):bB a/\jt a:=by
 have nd:=t.1.nodup_iff.mpr h.nd;have d:jt a:=nF.turn hw t.1 fun x f=>by
  obtain⟨z,b,rfl⟩:=bg.mp (t.1.mem_iff.mpr f);obtain⟨p,c,e,g⟩:=t.2 z b;rw[dz nd b,<-e,dz h.nd c];exact g
 have hl:=t.1.length_eq;rw[a7,a7] at hl;have bT:=h.bT;refine⟨Bq d (by lia) fun z b=>?_,d⟩
 obtain⟨p,c,e,_⟩:=t.2 z b;rw[<-e];exact h.nm p c
theorem DN(L:Fl)(g:Ob->Int):(cY (L.map fun y=>(g y.2,y.1))).map (·.2)=(L.mergeSort fun a b=>decide (g a.2<=g b.2)).map (·.1):=by
 delta cY;rw[<-U4 (f:=fun y:eA×Ob=>(g y.2,y.1)) (fun a _ b _=>rfl),fk]
 rfl
theorem MZ{L:Fl}{g:Ob->Int}(nd:(L.map fun y=>g y.2).Nodup):(L.mergeSort fun a b=>decide (-g a.2 <= -g b.2))=(L.mergeSort fun a b=>decide (g a.2<=g b.2)).reverse:=by
 have i:=hA L fun a b=>decide (-g a.2 <= -g b.2)
 have j:=hA L fun a b=>decide (g a.2<=g b.2)
 have m:=ua (le:=fun a b:eA×Ob=>decide (-g a.2 <= -g b.2)) (fun a b c d f=>by simp at *;omega) (fun a b=>by simp;omega) L
 have n:=ua (le:=fun a b:eA×Ob=>decide (g a.2<=g b.2)) (fun a b c d f=>by simp at *;omega) (fun a b=>by simp;omega) L
 refine nX (R:=fun a b=>g b.2<=g a.2/\a∈L/\b∈L) (fun a b d f=>?_) (i.trans (j.symm.trans (List.reverse_perm _).symm)) ?_ ?_
 ·rcases jl (gj.mp nd) d.2.1 d.2.2 with e|e|e
  ·exact e
  ·exact absurd (XO f.1 d.1) e
  ·exact absurd (XO d.1 f.1) e
 ·refine m.imp_of_mem fun {a b} k l h=>⟨?_,i.mem_iff.mp k,i.mem_iff.mp l⟩
  lia
 ·rw[List.pairwise_reverse];exact n.imp_of_mem fun {a b} k l h=>⟨of_decide_eq_true h,j.mem_iff.mp l,j.mem_iff.mp k⟩
theorem BJ{rs:Fl}{x:Ob}{k:Nat}(d:k<4)(f:rQ rs x):((fX rs x k).map (·.1)).Nodup/\(if k=0\/k=3 then bN rs x k else (bN rs x k).reverse)=iT rs x k:=by
 have nd:=f k d;unfold gn at nd;rw[fk] at nd;delta bN iT fX gn;generalize (rs.filter fun y=>cp k x y.2)=L at *
 have em:∀g:Ob->Int,(cY (L.map fun y=>(g y.2,y.1))).map (·.2)=[] ↔ (L.map fun y:eA×Ob=>(cP k y.2,y.1))=[]:=fun g=>by
  rw[VD,VD,<-Wc,x8,a7,Wc]
 have d:k=0\/k=3\/k=1\/k=2:=by omega
 have XG:∀{g:Ob->Int},(∀y,cP k y=g y)->((L.map fun y=>(g y.2,y.1)).map (·.1)).Nodup/\(if (cY (L.map fun y=>(g y.2,y.1))).map (·.2)=[] then [ay k] else (cY (L.map fun y=>(g y.2,y.1))).map (·.2))=(if (L.map fun y:eA×Ob=>(cP k y.2,y.1))=[] then [ay k] else (cY (L.map fun y:eA×Ob=>(cP k y.2,y.1))).map (·.2)):=fun {g} e=>by
  have e:cP k=g:=funext e;subst e;refine⟨by rw[fk];exact nd,?_⟩
  by_cases h:L=[]
  ·subst h;rw[if_pos (by simp[cY]),if_pos (show List.map _ []=[] from rfl)]
  ·rw[if_neg (fun z=>h (by simpa using (em _).mp z)),if_neg (by simpa using h)]
 have back:∀{g:Ob->Int},(∀y,cP k y=-g y)->((L.map fun y=>(g y.2,y.1)).map (·.1)).Nodup/\(if (cY (L.map fun y=>(g y.2,y.1))).map (·.2)=[] then [ay k] else (cY (L.map fun y=>(g y.2,y.1))).map (·.2)).reverse=(if (L.map fun y:eA×Ob=>(cP k y.2,y.1))=[] then [ay k] else (cY (L.map fun y:eA×Ob=>(cP k y.2,y.1))).map (·.2)):=fun {g} e=>by
  have e:cP k=fun y=>-g y:=funext e
  have c:(L.map fun y=>g y.2).Nodup:=gj.mpr ((gj.mp nd).imp fun {a b} h z=>h (by show cP k a.2=cP k b.2;rw[e];show -g a.2=-g b.2;rw[z]))
  refine⟨by rw[fk];exact c,?_⟩
  by_cases h:L=[]
  ·subst h;rw[if_pos (by simp[cY]),if_pos (show List.map _ []=[] from rfl)];rfl
  ·rw[if_neg (fun z=>h (by simpa using (em _).mp z)),if_neg (by simpa using h),DN,DN,e,MZ c,Zy]
 rcases d with rfl|rfl|rfl|rfl
 ·exact XG fun y=>rfl
 ·exact XG fun y=>rfl
 ·exact back fun y=>rfl
 ·exact back fun y=>rfl
theorem IX{rs:Fl}{x:Ob}(a:rQ rs x):bN rs x 0++(bN rs x 1).reverse++(bN rs x 2).reverse++bN rs x 3=fS rs x 4:=by
 have h:=fun k b=>(BJ (k:=k) b a).2
 rw[Dx,<-h 0 (by decide),<-h 1 (by decide),<-h 2 (by decide),<-h 3 (by decide)]
 rfl
def pQ(rs:Fl):aE:=rs.map fun y=>(y.1,fS rs y.2 4)
theorem Drawn.web{rs:Fl}(d:Drawn rs):bB (pQ rs)/\jt (pQ rs):=by
 have hw:=d.fl.ye d.mt (List.Perm.refl _);have c:bB (rs.map fun y=>(y.1,mr (fS rs y.2 4))):=Bq hw ⟨by rw[a7];exact pB.mpr d.fl.ne,by rw[a7];exact d.fl.bT⟩ fun z a=>by
  obtain⟨y,b,rfl⟩:=bg.mp a;exact d.fl.nm y b
 refine rG.ok ⟨by unfold pQ;rw[fk,fk];exact List.Perm.refl _,fun z a=>?_⟩ c hw
 obtain⟨y,b,rfl⟩:=bg.mp a;exact⟨_,bg.mpr ⟨y,b,rfl⟩,rfl,(Es _).symm⟩
def yy(fn:dI):Prop:=∀p (web:aE),1<=web.length->web.length<=8->(∀z∈web,0<z.2.length/\z.2.length<=1000)->∃r a,fn (pD p) [.lst (web.map pairD)]=some (r,a)/\∃(b:aE) (c:Int×Int),r=.own (.lst (b.map pairD))/\a=pD c/\rG web b
theorem IP(T:Txt mg)(N:bj P w K mg base "_law_draw" 1 (cO K 0 gV)){f:dR}{x:hQ}(F:bf K "_law_turned_web" "_law_turned_web" vM f x):∃fn,aO P w K mg base bh 2 f x ["_law_purse_here","_law_web_here"] (cO K 0 fn)/\yy fn:=by
 refine' l9 F Cg rfl ?O ?B
 case O =>
  intro cdv A outer s H E C;cases T;have lk:jE "_law_purse_here":=⟨trivial⟩
  walk_at "S"
 case B =>
  intro p web h1 h8 C;refine' lP rfl ?w
  case w =>
   have Q:cD (.lst (web.map pairD))=some web.length:=by simp[cD]
   obtain⟨v0,t,R,a0,b0⟩:=eO p (m:=(web.length:Int)) (by omega) (by omega)
   obtain⟨a,rfl⟩:=zc a0;refine' aj (aH (cR rfl (ae (eG rfl Q) ak) rfl R rfl) rfl (aq ?_));refine' aj (aH (bL ak (ro _)) rfl (aq ?_));have D:gC (.lst (web.map pairD)) (some (a:Int)) none=some (.own (.lst ((web.drop a).map pairD))):=by
    show some (Res.own (.lst (cutD (web.map pairD) (some (a:Int)) none)))=_;rw[tX,V5]
   have G:gC (.lst (web.map pairD)) none (some (a:Int))=some (.own (.lst ((web.take a).map pairD))):=by
    show some (Res.own (.lst (cutD (web.map pairD) none (some (a:Int)))))=_;rw[pV,V4]
   have ad:fK (.lst ((web.drop a).map pairD)) (.lst ((web.take a).map pairD))=some (.own (.lst ((web.drop a++web.take a).map pairD))):=by
    rw[eW];exact if_pos (by rw[a7,a7,se,l5];unfold dk;omega)
   have pm:(web.drop a++web.take a).Perm web:=by
    refine List.perm_append_comm.trans ?_;rw[UK]
   generalize hL:web.drop a++web.take a=L at *;have ll:=pm.length_eq;refine' aj (gb (fun k Z=>∃(q:Int×Int) (b:aE) (l o e:Slot),Z=[.io (pD q),.dat (.lst (web.map pairD)),.dat (.int a),.own (.lst (b.map pairD)),l,o,e]/\Fr l/\Fr o/\Fr e/\b.map (·.1)=(L.take k).map (·.1)/\∀z∈b,∃p∈web,p.1=z.1/\gI p.2 z.2) (dy (ah (au (ah (tI rfl rfl D) rfl) (ah (nB rfl rfl G) rfl) ad) rfl)) ⟨t,[],_,_,_,rfl,.inl rfl,.inl rfl,.inl rfl,rfl,fun z g=>by cases g⟩ ?st ?I)
   case I =>
    rintro _ ⟨q,b,l,o,e,rfl,_,_,_,h,g⟩;rw[a7,t9] at h;exact aq (aj (cg rfl (fL ⟨_,_,_,rfl,rfl,b,q,rfl,rfl,by rw[h];exact pm.map _,g⟩)))
   case st =>
    rintro k d hd _ ⟨q,b,l,o,e,rfl,S,U,V,h,g⟩;rw[eo] at hd;obtain⟨z,u,rfl⟩:=j'.mp hd;have r:=pm.mem_iff.mp (eR u);have hk:=(bt.mp u).1;obtain⟨z1,z2⟩:=C z r;refine⟨[.io (pD q),.dat (.lst (web.map pairD)),.dat (.int a),.own (.lst (b.map pairD)),.dat (.str z.1),.dat (.lst (z.2.map .str)),e],by rcases S with rfl|⟨d,rfl⟩<;>rcases U with rfl|⟨d,rfl⟩<;>rfl,?_⟩
    have W:cD (.lst (z.2.map .str))=some z.2.length:=by simp[cD]
    obtain⟨v1,J,X,a1,M⟩:=eO q (m:=(z.2.length:Int)) (by omega) (by omega)
    obtain⟨c,rfl⟩:=zc a1;refine' aj (aH (cR rfl (ae (eG rfl W) ak) rfl X rfl) ?M (aq ?Y))
    case M=>rcases V with rfl|⟨d,rfl⟩<;>rfl
    case Y =>
     have r1:gC (.lst (z.2.map .str)) (some (c:Int)) none=some (.own (.lst ((z.2.drop c).map .str))):=by
      show some (Res.own (.lst (cutD (z.2.map Dat.str) (some (c:Int)) none)))=_;rw[tX,V5]
     have r2:gC (.lst (z.2.map .str)) none (some (c:Int))=some (.own (.lst ((z.2.take c).map .str))):=by
      show some (Res.own (.lst (cutD (z.2.map Dat.str) none (some (c:Int)))))=_;rw[pV,V4]
     have r3:=tq (z.2.drop c) (z.2.take c) (by rw[se];omega) (by rw[l5];omega)
     have lw:b.length=k:=by
      have:=congrArg List.length h;rw[a7,a7,l5] at this;lia
     have v:(b.map pairD).length<sizeLine:=by rw[a7];delta dk;lia
     have s2:2<=sizeLine:=by unfold dk;decide
     refine' aj (mY (mH (d:=pairD (z.1,z.2.drop c++z.2.take c)) rfl (ae (fx (ae rfl (ae (ah (au (ah (tI rfl rfl r1) rfl) (ah (nB rfl rfl r2) rfl) r3) rfl) ak)) s2) ak) v) (aq (bC ⟨J,b++[(z.1,z.2.drop c++z.2.take c)],.dat (.str z.1),.dat (.lst (z.2.map .str)),.dat (.int c),?_,.inr ⟨.str z.1,rfl⟩,.inr ⟨.lst (z.2.map .str),rfl⟩,.inr ⟨.int c,rfl⟩,?_,?_⟩)))
     ·rw[eW];rfl
     ·rw[eW,gK u,eW,h];rfl
     ·intro y i
      rcases et.mp i with i|i
      ·exact g y i
      ·rw[eP.mp i];exact⟨z,r,rfl,z.2.take c,z.2.drop c,(UK c z.2).symm,rfl⟩
end
local macro_rules | `(tactic| walk_at "0")=>Mq.fs "DE.alt&Ds rrarA&RA rarA"
local macro_rules | `(tactic| walk_at "Y")=>Mq.fs "v7 TXX|KG arRrrdrrA"
local macro_rules | `(tactic| walk_at "0")=>Mq.fs "Q1 arRd|FH 7D"
section
variable{P:iN}{w:nE}{K:fj}{mg:eA->Option bR}{base:nS}
theorem sT{c:BF}{a:AF}{s' g:SF}{C:dR}{Z Z1 Z2:DS}{b:Bool}{ds:List Dat}{Q:Out->Prop}(h:c Z=some (b,Z1))(d:b=true)(e:a Z1=some (ds,Z2))(f:ds.length<=dk)(q:Q (.exc C Z2)):WS (i8 (j3 c (i8 (ml C a) qD) s') g) Z Q :=
 aj (gy h (fun _=>aj (rb e f q)) fun z=>by rw[d] at z;cases z)
theorem kP{fn:bc}{a:AF}{Z Z1:DS}{ds:List Dat}{b:Bool}(h:a Z=some (ds,Z1))(e:fn ds=some (.dat (.bl b))):p7 (nK (dG (bY fn a))) Z=some (!b,Z1):=ff (dM (ah (aZ h e) rfl) rfl)
def qI(exc:Nat->dR)(fn:gh):Prop:=∀d,dQ d->∃a,fn [d]=some a/\((dO d/\a=.ok (.dat .aB))\/(¬dO d/\a=.exc (exc 0)))
theorem FR{web a:aE}(h:web.map pairD=a.map pairD):web=a:=by
 refine (Y5 (f:=pairD) fun p q e=>?_).mp h
 injection e with e
 simp only[UW,Dat.str.injEq,Dat.lst.injEq,and_true] at e;exact ZS e.1 ((Y5 fun x y z=>by injection z).mp e.2)
theorem j4{web:aE}(h:dO (.lst (web.map pairD))):GoodW web:=by
 obtain⟨web',e,g⟩:=h;injection e with e
 rw[FR e];exact g
theorem Lu(T:Txt mg){exc:Nat->dR}(x0:vj K mg "NoWeb" (exc 0))(w1:fY K mg "WALLS" m9){G I J o L M N:bc}(q1:bj P w K mg base "has_form" 3 (aY K G))(R:AD G)(q2:bj P w K mg base "ties_are_shared" 1 (aY K I))(S:Cu I)(q3:bj P w K mg base "corners_close" 3 (aY K J))(s3:Bo J)
 (q4:bj P w K mg base "wall_has_row" 2 (aY K o))(s4:Dg o)(q5:bj P w K mg base "all_reached" 2 (aY K L))(U:A9 L)(q6:bj P w K mg base "threes_of" 2 (aY K M))(s6:Eb M)(q7:bj P w K mg base "ties_of" 1 (aY K N))(s7:zh N)
 {f:dR}{V:hQ}(F:bf K "must_web" "must_web" xG f V):∃fn,aO P w K mg base (dF P w) 4 f V ["web"] (iO K fn)/\qI exc fn:=by
 refine' zI F zu (n:=1) rfl ?hb ?O
 case hb =>
  intro cdv A outer s H E Q;have nd:=zu.nd;cases T;have hh:Dq "rings":=⟨trivial⟩
  walk_at "X"
 case O =>
  clear T F q1 q2 q3 q4 q5 q6 q7;intro d W;refine' yP rfl ?w
  case w =>
   show WS _ [.dat d,.no] _;have i:1<=sizeLine:=by unfold dk;decide
   by_cases t:fV d=true
   case neg =>
    rw[v3] at t;refine sT (kP (ae rfl ak) (R d W)) (by rw[t];rfl) rfl i (.inr (.inl ⟨_,_,rfl,.inr ⟨fun g=>?_,rfl⟩⟩))
    obtain⟨web,rfl,g⟩:=g;rw[Ef g.f] at t;cases t
   obtain⟨web,rfl,h⟩:=KP t;have kl:(cT web).length=web.length:=a7 ..;obtain⟨_,e7,ds,rfl,hd⟩:=s7 web h;refine fq (kP (ae rfl ak) (R _ W)) (by rw[t];rfl) ?_
   refine' aj (DZ (aH (r:=.dat (aX web)) (Z1:=[.dat (.lst (web.map pairD)),.no]) (Z2:=[.dat (.lst (web.map pairD)),.dat (aX web)]) ?a rfl (aq ?b)))
   case a =>
    unfold sg;rw[aZ (ae rfl ak) (Kb h.nd)];rfl
   case b =>
    have l:∀{C:dR}{Z:DS},C=exc 0->¬GoodW web->(∃r u,Out.exc C Z=.ret r u/\((dO (.lst (web.map pairD))/\iF.ok r=.ok (.dat .aB))\/(¬dO (.lst (web.map pairD))/\iF.ok r=.exc (exc 0))))\/(∃C' u,Out.exc C Z=.exc C' u/\((dO (.lst (web.map pairD))/\iF.exc C'=.ok (.dat .aB))\/(¬dO (.lst (web.map pairD))/\iF.exc C'=.exc (exc 0))))\/∃u,Out.exc C Z=.next u/\((dO (.lst (web.map pairD))/\iF.ok (.dat .aB)=.ok (.dat .aB))\/(¬dO (.lst (web.map pairD))/\iF.ok (.dat .aB)=.exc (exc 0))):=fun e g=>.inr (.inl ⟨_,_,rfl,.inr ⟨fun z=>g (j4 z),by rw[e]⟩⟩)
    by_cases sh:oH web
    case neg=>exact sT (kP (ae rfl ak) (S web h)) (by rw[decide_eq_false sh];rfl) rfl i (l rfl fun g=>sh g.sh)
    refine fq (kP (ae rfl ak) (S web h)) (by rw[decide_eq_true sh];rfl) ?_
    by_cases cl:(aN web).all (nz (aN web))=true
    case neg =>
     have X:=cl;rw[v3] at cl;exact sT (kP (ae rfl ak) (s3 web h)) (by rw[cl];rfl) rfl i (l rfl fun g=>X g.cl)
    refine fq (kP (ae rfl ak) (s3 web h)) (by rw[cl];rfl) ?_
    have Q:∀n∈bZ,∃b,o [aX web,.str n]=some (.dat (.bl b))/\∃k,k<4/\n=ay k/\(b=true ↔ oD web k):=fun n c=>by
     obtain⟨k,m,rfl⟩:=sf c;obtain⟨b,e,q⟩:=s4 web k m h cl;exact⟨b,e,k,m,rfl,q⟩
    have v:∃B:eA->Bool,∀n∈bZ,o [aX web,.str n]=some (.dat (.bl (B n)))/\∃k,k<4/\n=ay k/\(B n=true ↔ oD web k):=by
     refine⟨fun n=>if c:n∈bZ then (Q n c).choose else false,fun n c=>?_⟩
     simp only[c,dite_true];exact (Q n c).choose_spec
    obtain⟨B,v⟩:=v;refine' aj (gy (ff (dM (ah (v_allB (enc:=Dat.str) (xs:=bZ) (fun n=>[.no,.dat (.str n),.dat (aX web)]) B (NV rfl) rfl ?c1 ?c2 ?c3 ?c4) rfl) rfl)) (fun x=>aj (rb rfl i (l rfl fun g=>?c6))) fun x=>bC (aq ?c5))
    case c1=>show 4<=dk;unfold dk;decide
    case c2=>intro y hy Z hd;rcases hd with rfl|⟨z,rfl⟩<;>rfl
    case c3=>intro n c;exact ah (aZ (ae rfl (ae rfl ak)) (v n c).1) rfl
    case c4=>intro n c;rfl
    case c6 =>
     rw[pl] at x;refine t8 (x.symm.trans (ia.mpr fun n c=>?_))
     obtain⟨k,m,rfl,q⟩:=(v n c).2;exact q.mpr (g.row k m)
    case c5 =>
     rw[Y'] at x;have row:∀k,k<4->oD web k:=fun k m=>by
      obtain⟨j,hj,e,q⟩:=(v _ (oG m)).2;rw[zl m hj e];exact q.mp (ia.mp x _ (oG m))
     show WS _ [.dat (.lst (web.map pairD)),.dat (aX web)] _
     by_cases D:(web.all fun p=>decide (p.1∈iK web web.length))=true
     case neg =>
      have Y:=D;rw[v3] at D;exact sT (kP (ae rfl ak) (U web h)) (by rw[D];rfl) rfl i (l rfl fun g=>Y g.md)
     refine fq (kP (ae rfl ak) (U web h)) (by rw[D];rfl) ?_
     have kt:(bq (cZ ((aN web).map br))).length=(cZ ((aN web).map br)).length:=a7 ..;refine' aj (gy (cb (au (ah (aZ (ae (ah (aZ (ae rfl ak) (s6 web h)) rfl) ak) rfl) rfl) (ah (au (r:=.dat (.int ((ds.length:Int)-web.length+1))) (ah (au (ah (aZ (ae (ah (aZ (ae rfl ak) e7) rfl) ak) rfl) rfl) (eG rfl (congrArg some kl)) (qQ rfl)) rfl) rfl rfl) rfl) (ne_int _ _))) (fun z=>aj (rb rfl i (l rfl fun g=>?d1))) fun z=>bC (aq (bC (.inr (.inr ⟨_,rfl,.inl ⟨⟨web,rfl,h,sh,cl,row,D,?d2⟩,rfl⟩⟩)))))
     case d1 =>
      rw[pl,decide_eq_false_iff_not] at z;have:=g.th;omega
     case d2 =>
      rw[Y',decide_eq_true_eq] at z;omega
def B6(exc:Nat->dR)(fn:gh):Prop:=∀d,dQ d->¬dO d->fn [d]=some (.exc (exc 0))
theorem Ce{exc:Nat->dR}{fn:gh}(s:qI exc fn){d:Dat}(h:dQ d)(g:¬dO d):fn [d]=some (.exc (exc 0)):=by
 obtain⟨a,e,⟨z,_⟩|⟨_,rfl⟩⟩:=s d h
 ·exact absurd z g
 ·exact e
theorem Ol{exc:Nat->dR}{b:gh}(q1:j8 P w K mg base "must_web" 4 (iO K b))(e:qI exc b){f:dR}{c:hQ}(F:bf K "bars" "bars" uS f c):∃fn,aO P w K mg base (dF P w) 5 f c ["web"] (iO K fn)/\B6 exc fn:=by
 refine' zI F MT (n:=1) rfl ?C ?B
 case C =>
  intro cdv A outer s H E hr;refine' vY ?a Qu
  case a=>walk_at "Y"
 case B =>
  intro d h g;refine' QG rfl ?w
  case w =>
   refine aj ⟨.exc (exc 0) (dX 9 [d]),?_,.inr ⟨_,_,rfl,rfl⟩⟩;show (b [d]).bind _=_;rw[Ce e h g];rfl
noncomputable def oS:bc
 | [.int i,d]=>@ite _ ((i=0\/i=1)/\dQ d/\¬dO d) (Classical.propDecidable _) (some (.dat (.bl true))) none
 | _=>none
theorem qN{i:Int}{d:Dat}(a:i=0\/i=1)(h:dQ d)(g:¬dO d):oS [.int i,d]=some (.dat (.bl true)):=if_pos ⟨a,h,g⟩
theorem IH{X:Cx}{c:St}{cls:bR}{a:dR}{H:Hp}(h:H a=none->lX X c cls a H):lX X c cls a H:=fun b s I F=>h F.na b s I F
theorem Jr{c:Bool}{A B:Prop}(a:A)(b:B):if c=true then A else B:=by cases c<;>assumption
theorem ite_no{A B:Prop}(b:B):if false=true then A else B:=b
theorem EZ{J j k l m n q t:dR}{exc:Nat->dR}{y B:gh}(R:mg "TouchError"=some (.ref J))(hR:aaB K (.ref (exc 0)) (.ref J)=some true)(D:mg "isinstance"=none)(mW:mg "NoWeb"=some (.ref (exc 0)))(S:jP K (exc 0))(hW:UY K (.ref (exc 0)) (.ref (exc 0))=some true)
 (m1:mg "NoCut"=some (.ref j))(m2:mg "NoFloor"=some (.ref k))(m3:mg "NoName"=some (.ref l))(m4:mg "NoRoom"=some (.ref m))(m5:mg "NoText"=some (.ref n))(m6:mg "NoTinting"=some (.ref q))(m7:mg "Twice"=some (.ref t))
 (hN:Zj K (.ref (exc 0)) [.ref j,.ref k,.ref l,.ref m,.ref n,.ref q,.ref t]=some false)(q1:j8 P w K mg base "must_web" 4 (iO K y))(u:qI exc y)(q2:j8 P w K mg base "bars" 5 (iO K B))(s2:B6 exc B)
 {f:dR}{T:hQ}(F:bf K "_law_refused" "_law_refused" vw f T):aO P w K mg base bh 6 f T ["_law_way","_law_web_here"] (aY K oS):=by
 obtain⟨f1,fd1,pn1,F1,U,X,b1⟩:=q1.is;obtain⟨f2,fd2,pn2,F2,Y,Z,b2⟩:=q2.is;refine F.ok Cm (fun vs H Q E h=>?_) (fun cdv A outer s H vs Q E hr h=>?_)
 ·obtain⟨x,ds,r,sm,L,e,_⟩:=h;rw[L.length];unfold oS at e;split at e
  ·rfl
  ·cases e
 obtain⟨x,ds,r,sm,L,e,kQ⟩:=h;unfold oS at e;split at e
 case h_2=>cases e
 rename_i i d
 by_cases ok:(i=0\/i=1)/\dQ d/\¬dO d
 case neg=>rw[if_neg ok] at e;cases e
 rw[if_pos ok] at e;cases e;obtain⟨hi,fa,ng⟩:=ok;have e1:=Ce u fa ng;have e2:=s2 d fa ng;have nd:=Cm.nd;obtain⟨v0,vr,rfl,RE,M⟩:=L;obtain⟨v1,vr,rfl,rv,M⟩:=M;cases M;obtain rfl:v0=.int i:=RE;refine⟨_,tz (ya (i:=2) nd rfl (Xr rfl) AE)
  (tz (Hy (fun pn Ex=>ni (yh (qU Hg (pv 0) Ci (Lc _ (by decide) (by decide))) (ni (sv (xk F1 (hr.mono (by decide)) rfl U X b1 rfl (dE (pv 1) iY)))) (ni (sv (xk F2 hr rfl Y Z b2 rfl (dE (pv 1) iY)))))))
  (tz (yh (OS (mT Ie rfl D (by decide +kernel) (dE (pv 2) (dE (uI (dE (js rfl m1 (v:=.ref j) rfl) (dE (js rfl m2 (v:=.ref k) rfl) (dE (js rfl m3 (v:=.ref l) rfl) (dE (js rfl m4 (v:=.ref m) rfl) (dE (js rfl m5 (v:=.ref n) rfl) (dE (js rfl m6 (v:=.ref q) rfl) (dE (js rfl m7 (v:=.ref t) rfl) iY)))))))) iY)))) (ni (x9 C6)) Cj)
  (ni (x9 (mT (MK Xl.ga) rfl D (by decide +kernel) (dE (pv 2) (dE (js rfl mW (v:=.ref (exc 0)) rfl) iY))))))),?_⟩
 intro pins;refine⟨_,rfl,rfl,_,rfl,Jr ?_ ?_⟩
 all_goals
  refine⟨_,rfl,fun cls oa g=>∃c,cls=.ref (exc 0)/\ag H g/\ag x c/\ag c g/\(∀b o,c b=some o->gg x H b o),⟨x,[d],.exc (exc 0),sm,⟨_,[],rfl,rv,rfl⟩,by first|exact e1|exact e2,fun a g c k1 k2 k3 N=>⟨c,rfl,k1,k2,k3,N⟩⟩,?_⟩
  rintro cls a g ⟨c,rfl,k1,k2,k3,N⟩;refine IH fun RF=>?_
  refine Pn (i:=3) (C:=J) nd rfl rfl rfl rfl rfl rfl R hR (fun v=>ni (ya (i:=2) nd rfl (Xr rfl) (pv 3))) ?_
  refine⟨_,rfl,_,rfl,by show 7<=dk;unfold dk;decide,fun p O=>?_⟩
  have u:ag g (upd g a (excAt a (.ref (exc 0)))):=i7 RF;have G:p≠a:=fun z=>by
   rw[z,aU] at O;cases O
  refine⟨exc 0,a,p,[j,k,l,m,n,q,t],false,rfl,aU,by rw[aw G.symm];exact aU,S,hN,_,rfl,?_⟩
  refine ite_no ?_;have I:ag (upd g a (excAt a (.ref (exc 0)))) (upd (upd g a (excAt a (.ref (exc 0)))) p (.tup ([j,k,l,m,n,q,t].map V.ref))):=i7 O;refine⟨_,rfl,_,exc 0,.ref a,.ref (exc 0),.ref (exc 0),true,rfl,rfl,ag.refl _,⟨a,rfl,by rw[aw G.symm];exact aU⟩,S,hW,?_⟩
  exact kQ _ _ c (k1.trans (u.trans I)) k2 (k3.trans (u.trans I)) N rfl
structure fQ (d:Dat):Prop where
 f:dQ d
 g:¬dO d
theorem rN{d:Dat}(h:fV d=false):¬dO d:=fun ⟨web,e,g⟩=>by
 subst e;rw[Ef g.f] at h;cases h
theorem ze{ds:List Dat}{e:Dat}(a:e∈ds)(b:di e=false):fV (.lst ds)=false:=by
 have:ds.all di=false:=W7.mpr ⟨e,a,by rw[b];decide⟩
 simp only[fV,this,Ve,Cs]
theorem Ga{ds:List Dat}{x:eA}{l:List Dat}(a:.tup [.str x,.lst l]∈ds)(b:hJ x l ((ds.filterMap asPair).map (·.1)++bZ)=false):fV (.lst ds)=false:=by
 have:jv (ds.filterMap asPair)=false:=by
  unfold jv;rw[W7.mpr ⟨(x,l),z9.mpr ⟨_,a,rfl⟩,by rw[b];decide⟩,Ve]
 simp only[fV,this,Ve]
theorem IE{names:List eA}{x:eA}{l:List Dat}{e:Dat}(a:e∈l)(h:jo names x e=false):hJ x l names=false:=by
 unfold hJ;rw[W7.mpr ⟨e,a,by rw[h];decide⟩,Ve,Cs]
theorem CM{web:aE}{p:eA×List eA}{n m:eA}(a:p∈web)(hs:(n,m)∈dB p.2):[p.1,n,m]∈aN web:=Wb.mpr ⟨p,a,bg.mpr ⟨(n,m),hs,rfl⟩⟩
theorem yj{web:aE}{p:eA×List eA}{n m:eA}(a:p∈web)(hs:(n,m)∈dB p.2)(b:(bS n&&bS m)=true)(hm:decide (m=xy n)=false):¬dO (.lst (web.map pairD)):=fun g=>by
 have:=ia.mp (j4 g).cl _ (CM a hs);have:iI (aN web) p.1 n m=true:=this;unfold iI at this;rw[if_pos b,hm] at this;cases this
theorem A3{x:eA}{l:List Dat}(a:aP x):jc (.tup [.str x,.lst l]):=.tup _ (by show 2<=3;decide) fun d hd=>by
 rcases ey.mp hd with rfl|hd
 ·exact .inl ⟨x,rfl,a⟩
 ·exact .inr (.inl ⟨l,eP.mp hd⟩)
theorem zP{d:Dat}(h:jc d)(b:∀x l,d=.tup [.str x,.lst l]->l.length<100/\∀e∈l,jq e):dQ (.lst [d]):=.lst _ (by show 1<100;decide) (fun e a=>by rw[eP.mp a];exact h) fun x l a=>b x l (eP.mp a).symm
theorem Kf{x:eA}{l:List Dat}(a:aP x)(hl:l.length<100)(h:∀e∈l,jq e):dQ (.lst [.tup [.str x,.lst l]]):=zP (A3 a) fun y m e=>by
 injection e with e
 simp only[UW,Dat.str.injEq,Dat.lst.injEq,and_true] at e;rw[<-e.2];exact⟨hl,h⟩
theorem yZ{d:Dat}(h:jc d)(a:∀x l,d≠.tup [.str x,.lst l]):dQ (.lst [d]):=zP h fun x l e=>absurd e (a x l)
theorem LY{ds a:List Dat}(b:dQ (.lst ds))(c:dQ (.lst a))(hl:ds.length+a.length<100):dQ (.lst (ds++a)):=by
 cases b with
 | lst _ a1 e f =>
  cases c with
  | lst _ b1 g h =>
   refine .lst _ (by rw[eH];exact hl) (fun d hd=>?_) fun x l hd=>?_
   ·rcases et.mp hd with hd|hd
    ·exact e d hd
    ·exact g d hd
   ·rcases et.mp hd with hd|hd
    ·exact f x l hd
    ·exact h x l hd
theorem D9{a:List eA}(h:∀n∈a,aP n):∀e∈a.map Dat.str,jq e:=fun e b=>by
 obtain⟨n,c,rfl⟩:=bg.mp b;exact .str n (h n c)
theorem kN{web:aE}(hl:web.length<100)(b:∀p∈web,aP p.1/\p.2.length<100/\∀n∈p.2,aP n):dQ (.lst (web.map pairD)):=by
 refine .lst _ (by rw[a7];exact hl) (fun d hd=>?_) fun x l hd=>?_
 ·obtain⟨p,a,rfl⟩:=bg.mp hd;exact A3 (b p a).1
 ·obtain⟨p,a,e⟩:=bg.mp hd;injection e with e
  simp only[UW,Dat.str.injEq,Dat.lst.injEq,and_true] at e;have:=b p a;rw[<-e.2,a7];exact⟨this.2.1,D9 this.2.2⟩
theorem bB.mm{web:aE}(h:bB web):∀p∈web,aP p.1/\p.2.length<100/\∀n∈p.2,aP n:=fun p a=>⟨h.txt (.inl (bg.mpr ⟨p,a,rfl⟩)),by have:=h.len a;omega,fun n b=>h.txt ((h.rg p a).2.2 n b).1⟩
theorem bB.A6{web:aE}(h:bB web):dQ (.lst (web.map pairD)):=kN (by have:=h.bT;omega) h.mm
theorem oK{web a:aE}(h:bB web)(hl:a.length<=8)(c:∀p∈a,aP p.1/\p.2.length<100/\∀n∈p.2,aP n):dQ (.lst ((web++a).map pairD)):=kN (by rw[eH];have:=h.bT;omega) fun p b=>by
 rcases et.mp b with b|b
 ·exact h.mm p b
 ·exact c p b
theorem IV{web more:aE}(h:bB web)(h':bB (web++more)){wl a:eA}{l:List eA}(r:Row ((web++more).map (·.1)) (eE (web++more)) wl a l):a∈web.map (·.1)\/a∈bZ->∀y∈l,y∈web.map (·.1):=by
 induction r with
 | stop _=>intro _ y b;cases b
 | @go a p l f s _ g =>
  intro hm;have c:a∈web.map (·.1):=by
   rcases hm with z|z
   ·exact z
   ·have:=h'.xV f;rw[(jO a).mpr z] at this;cases this
  obtain⟨q,d,rfl⟩:=bg.mp c;have e:=s.mem.1;rw[dz h'.nd (ub _ d)] at e;intro y b
  rcases ey.mp b with rfl|b
  ·exact c
  ·exact g ((h.rg q d).2.2 p e).1 y b
theorem FX{web more:aE}(h:bB web){k:Nat}(j:k<4)(m:∀p∈more,ay ((k+1)%4)∉p.2)(n:∃p∈more,ay k∈p.2):¬dO (.lst ((web++more).map pairD)):=fun g=>by
 have g:=j4 g;have h':=g.f;obtain⟨x,l,o,r,pm⟩:=g.row k j;obtain⟨q,c,hw⟩:=n;have s:x∈gH (web++more) k:=by rw[o];exact eP.mpr rfl
 obtain⟨p,a,rfl⟩:=bg.mp s;obtain⟨a,b⟩:=gf.mp a;have b:=((iQ h').mp (of_decide_eq_true b)).2.mem.2;rw[dz h'.nd a] at b;have d:p∈web:=(et.mp a).resolve_right fun z=>m p z b
 have e:q.1∈l:=pm.mem_iff.mpr (bg.mpr ⟨q,gf.mpr ⟨iW _ c,decide_eq_true hw⟩,rfl⟩);have i:=IV h h' r (.inl (bg.mpr ⟨p,d,rfl⟩)) _ e;have nd:=h'.nd;rw[eW] at nd;exact (iR.mp nd).2.2 _ i _ (bg.mpr ⟨q,c,rfl⟩) rfl
theorem Mv{web:aE}(hw:jt web){x:eA}{l:List eA}(hl:(ay 0,ay 1)∈dB l):¬dO (.lst ((web++[(x,l)]).map pairD)):=fun g=>by
 have g:=j4 g;have h':=g.f;obtain⟨y,b,i,_⟩:=hw.row 0 (by decide)
 obtain⟨p,a,rfl⟩:=bg.mp b;have c:=(i p.1 b).mpr rfl;have nd:=h'.nd;rw[eW] at nd;rw[dz (iR.mp nd).1 a] at c;obtain⟨z,_,j,_⟩:=g.row 0 (by decide)
 have d:p.1∈gH (web++[(x,l)]) 0:=bg.mpr ⟨p,gf.mpr ⟨ub _ a,decide_eq_true ((iQ h').mpr ⟨bg.mpr ⟨p,ub _ a,rfl⟩,by rw[dz h'.nd (ub _ a)];exact c⟩)⟩,rfl⟩
 have e:(x,l)∈web++[(x,l)]:=iW _ (eP.mpr rfl);have h:x∈gH (web++[(x,l)]) 0:=bg.mpr ⟨(x,l),gf.mpr ⟨e,decide_eq_true (CM e hl)⟩,rfl⟩;rw[j] at d h;refine (iR.mp nd).2.2 _ b _ (bg.mpr ⟨(x,l),eP.mpr rfl,rfl⟩) ?_;rw[eP.mp d];exact (eP.mp h).symm
theorem yM{web:aE}{p:eA×List eA}(a:p∈web)(h:cF p.1=false):¬dO (.lst (web.map pairD)):=fun g=>by
 have:=(j4 g).f.nm p a;rw[h] at this;cases this
noncomputable def nD(x:eA):List eA->List eA
 | []=>[x]
 | y::r=>if cB x y=true then x::y::r else y::nD x r
theorem uw(x:eA):∀l:List eA,(nD x l).Perm (x::l)
 | []=>.refl _
 | y::r=>by
  unfold nD;split
  ·exact .refl _
  ·exact ((uw x r).cons y).trans (.swap x y r)
theorem Cp{x:eA}:∀{l:List eA},l.Pairwise (fun a b=>cB a b=true)->(nD x l).Pairwise fun a b=>cB a b=true
 | [],_=>U6 _ _
 | y::r,h=>by
  unfold nD;split
  ·rename_i z;refine tu.mpr ⟨fun b c=>?_,h⟩
   rcases ey.mp c with rfl|c
   ·exact z
   ·exact rE _ _ _ z ((tu.mp h).1 b c)
  ·rename_i z;refine tu.mpr ⟨fun b c=>?_,Cp (tu.mp h).2⟩
   rcases ey.mp ((uw x r).mem_iff.mp c) with rfl|c
   ·have:=sd b y;rw[Wv] at this;exact this.resolve_left z
   ·exact (tu.mp h).1 b c
noncomputable def rS(l:List eA):List Str:=l.foldr nD []
theorem CW:∀l:List eA,(rS l).Perm l
 | []=>.refl _
 | x::l=>(uw x _).trans ((CW l).cons x)
theorem Dm:∀l:List eA,(rS l).Pairwise fun a b=>cB a b=true
 | []=>.nil
 | _::l=>Cp (Dm l)
theorem Gf(l:List eA):br l=rS l:=(pC (CW l) ((Dm l).imp fun h=>kd.mp h)).symm
noncomputable def oJ:aE:=[("a",["c","d","east","e","west","north"]),("b",["west","e","c","north","east","d"]),("c",["e","south","d","a","north","b"]),("d",["south","west","b","east","a","c"]),("e",["a","east","south","c","b","west"])]
noncomputable def uB:aE:=("a",["north","east","south","west"])::[("t",["u","w","v","z","x","y"]),("u",["v","x","w","t","y","z"]),("v",["w","y","x","u","z","t"]),("w",["x","z","y","v","t","u"]),("x",["y","t","z","w","u","v"]),("y",["z","u","t","x","v","w"]),("z",["t","v","u","y","w","x"])]
theorem ku{x:eA}(h:(x.cps.all (·<128)&&decide (x.length<=99))=true):aP x:=by
 rw[ee,decide_eq_true_eq] at h;exact⟨h.1,h.2⟩
noncomputable def JZ(web:aE):Bool:=web.all fun p=>p.1.cps.all (·<128)&&decide (p.1.length<=99)&&decide (p.2.length<100)&&p.2.all fun x=>x.cps.all (·<128)&&decide (x.length<=99)
theorem lD{web:aE}(h:JZ web=true):∀p∈web,aP p.1/\p.2.length<100/\∀n∈p.2,aP n:=fun p a=>by
 have:=ia.mp h p a;rw[ee,ee,decide_eq_true_eq,ia] at this;exact⟨ku this.1.1,this.1.2,fun n b=>ku (this.2 n b)⟩
theorem Np:fQ (.lst (oJ.map pairD)) where
 f:=kN (by decide) (lD (by decide +kernel))
 g:=fun g=>by
  have:=(j4 g).th;rw[show (aN oJ).map br=(aN oJ).map rS from pA fun l _=>Gf l] at this
  exact absurd this (by decide +kernel)
theorem Rc:fQ (.lst (uB.map pairD)) where
 f:=kN (by decide) (lD (by decide +kernel))
 g:=fun g=>by
  have:=(j4 g).md;exact absurd this (by decide +kernel)
noncomputable def jR:List Str:=["qaaaaaaa","qbbbbbbb","qccccccc","qddddddd"]
noncomputable def uA(m:Nat)(a b:eA):aE:=if m=3 then [("qaaaaaaa",[a,"qbbbbbbb",b,"qccccccc"]),("qbbbbbbb",[a,"qccccccc",b,"qaaaaaaa"]),("qccccccc",[a,"qaaaaaaa",b,"qbbbbbbb"])] else [("qaaaaaaa",[a,"qbbbbbbb",b,"qddddddd"]),("qbbbbbbb",[a,"qccccccc",b,"qaaaaaaa"]),("qccccccc",[a,"qddddddd",b,"qbbbbbbb"]),("qddddddd",[a,"qaaaaaaa",b,"qccccccc"])]
theorem Et{web:aE}(h:bB web){m k a:Nat}(hm:m=3\/m=4)(b:(k=0/\a=2)\/(k=1/\a=3)\/(k=3/\a=1)):fQ (.lst ((web++uA m (ay k) (ay a)).map pairD)):=by
 refine⟨oK h ?_ (lD ?_),FX (k:=k) h ?_ ?_ ?_⟩<;>rcases hm with rfl|rfl<;>rcases b with⟨rfl,rfl⟩|⟨rfl,rfl⟩|⟨rfl,rfl⟩<;>decide +kernel
theorem Nu{web:aE}(h:bB web):fQ (.lst ((web++([("nine",["north","east","south"])]:aE)).map pairD)):=⟨oK h (by decide +kernel) (lD (by decide +kernel)),yj (p:=("nine",["north","east","south"])) (n:="south") (m:="north") (iW _ (eP.mpr rfl)) (by decide +kernel) (by decide +kernel) (by decide +kernel)⟩
def pN(fn:dI):Prop:=∀p (web:aE),bB web->∃r a,fn (pD p) [.lst (web.map pairD)]=some (r,a)/\∃(d:Dat) (b:Int×Int),r=.own d/\a=pD b/\fQ d
theorem wj{web more:aE}(h1:web.length<=1000)(h2:more.length<=1000):fK (.lst (web.map pairD)) (.lst (more.map pairD))=some (.own (.lst ((web++more).map pairD))):=by
 rw[eW];exact if_pos (by rw[a7,a7];unfold dk;omega)
theorem QU(T:Txt mg)(r:bj P w K mg base "_law_draw" 1 (cO K 0 gV)){f:dR}{o:hQ}(F:bf K "_law_ring" "_law_ring" vK f o):∃fn,aO P w K mg base bh 2 f o ["_law_purse_here","_law_web_here"] (cO K 0 fn)/\pN fn:=by
 refine' l9 (j:=0) F yJ (n:=1) rfl ?C ?B
 case C =>
  intro cdv A outer s H E hr;have nd:=yJ.nd;cases T;have lk:jE "_law_purse_here":=⟨trivial⟩
  walk_at "S"
 case B =>
  clear T F r;intro p web h;refine' lP rfl ?w
  case w =>
   show WS _ [.io (pD p),.dat (.lst (web.map pairD)),.no,.no,.no,.no,.no] _;have bT:=h.bT;have t:cD (.lst (web.map pairD))=some web.length:=by simp[cD]
   obtain⟨l,q,u,a0,b0⟩:=eO p (m:=2) (by decide) (by decide)
   obtain⟨e,c,v,a1,b1⟩:=eO q (m:=3) (by decide) (by decide)
   obtain⟨m,hm,em⟩:∃m:Nat,m<=4/\qS [.int (3+l),.int (8-(web.length:Int))]=some (.dat (.int m)):=by
    refine⟨(if 8-(web.length:Int)<3+l then 8-(web.length:Int) else 3+l).toNat,?_,?_⟩
    ·split<;>omega
    ·show some (Res.dat (.int (if _ then _ else _)))=_
     rw[Rr (by split<;>omega)]
   have g:∃k a,((k=0/\a=2)\/(k=1/\a=3)\/(k=3/\a=1))/\cu (.lst [.lst [.str "north",.str "south"],.lst [.str "east",.str "west"],.lst [.str "west",.str "east"]]) (.int e)=some (.lst [.str (ay k),.str (ay a)]):=by
    have:e=0\/e=1\/e=2:=by omega
    rcases this with rfl|rfl|rfl
    ·exact⟨0,2,.inl ⟨rfl,rfl⟩,rfl⟩
    ·exact⟨1,3,.inr (.inl ⟨rfl,rfl⟩),rfl⟩
    ·exact⟨3,1,.inr (.inr ⟨rfl,rfl⟩),rfl⟩
   obtain⟨k,a,g,x⟩:=g;have s4:4<=sizeLine:=by unfold dk;decide
   have i:2<=sizeLine:=by unfold dk;decide
   have s3:3<=sizeLine:=by unfold dk;decide
   have y:1<=sizeLine:=by unfold dk;decide
   refine' aj (aH (Z2:=[.io (pD q),.dat (.lst (web.map pairD)),.own (.lst ((jR.take m).map .str)),.no,.no,.no,.no]) (nB (ah (bL (ae rfl (ae rfl (ae rfl (ae rfl ak)))) s4) rfl) (ah (aZ (ae (ah (au rfl (ah (cR rfl (ae rfl ak) rfl u rfl) rfl) rfl) rfl) (ae (ah (au rfl (eG rfl t) (qQ rfl)) rfl) ak)) em) rfl) (AK jR m)) rfl (aq ?_));refine' aj (aH (Z2:=[.io (pD c),.dat (.lst (web.map pairD)),.own (.lst ((jR.take m).map .str)),.dat (.lst [.str (ay k),.str (ay a)]),.no,.no,.no]) (v_res (n8 (ah (bL (ae (ah (bL (ae rfl (ae rfl ak)) i) rfl) (ae (ah (bL (ae rfl (ae rfl ak)) i) rfl) (ae (ah (bL (ae rfl (ae rfl ak)) i) rfl) ak))) s3) rfl) (ah (cR rfl (ae rfl ak) rfl v rfl) rfl) x)) rfl (aq ?_))
   by_cases h3:m<3
   ·refine fE (b:=true) (cb (au (eG rfl (show cD (.lst ((jR.take m).map .str))=some m from by simp[cD,jR];omega)) rfl (show mj _ _=some (.dat (.bl true)) from by show some (Res.dat (.bl (decide ((m:Int)<3))))=_;rw[decide_eq_true (by omega)]))) rfl (au rfl (ah (bL (ae (fx (ae rfl (ae (ah (bL (ae rfl (ae rfl (ae rfl ak))) s3) rfl) ak)) i) ak) y) rfl) (wj (more:=[("nine",["north","east","south"])]) (by omega) (by decide))) ⟨_,_,_,rfl,rfl,_,c,rfl,rfl,Nu h⟩
   ·have d:m=3\/m=4:=by omega
    refine fq (b:=false) (cb (au (eG rfl (show cD (.lst ((jR.take m).map .str))=some m from by rcases d with rfl|rfl<;>rfl)) rfl (show mj _ _=some (.dat (.bl false)) from by rcases d with rfl|rfl<;>rfl))) rfl ?_
    refine' aj (aH (Z2:=[.io (pD c),.dat (.lst (web.map pairD)),.own (.lst ((jR.take m).map .str)),.dat (.lst [.str (ay k),.str (ay a)]),.own (.lst []),.no,.no]) (bL ak (ro _)) rfl (aq ?_))
    rcases d with rfl|rfl
    ·refine aj ⟨.next [.io (pD c),.dat (.lst (web.map pairD)),.own (.lst ((jR.take 3).map .str)),.dat (.lst [.str (ay k),.str (ay a)]),.own (.lst ((uA 3 (ay k) (ay a)).map pairD)),.dat (.int 2),.dat (.str "qaaaaaaa")],rfl,aq (aj (cg (au rfl rfl (wj (by omega) (by show 3<=1000;decide))) ⟨_,_,_,rfl,rfl,_,c,rfl,rfl,Et h (.inl rfl) g⟩))⟩
    ·refine aj ⟨.next [.io (pD c),.dat (.lst (web.map pairD)),.own (.lst ((jR.take 4).map .str)),.dat (.lst [.str (ay k),.str (ay a)]),.own (.lst ((uA 4 (ay k) (ay a)).map pairD)),.dat (.int 3),.dat (.str "qaaaaaaa")],rfl,aq (aj (cg (au rfl rfl (wj (by omega) (by show 4<=1000;decide))) ⟨_,_,_,rfl,rfl,_,c,rfl,rfl,Et h (.inr rfl) g⟩))⟩
noncomputable def fN(a b n:eA):Str:=if n=a then b else n
def jU(a b:eA)(web:aE):aE:=web.map fun p=>(fN a b p.1,p.2.map (fN a b))
theorem BW{b a n:eA}(c:aP a)(d:aP n):aP (fN b a n):=by
 unfold fN;split
 ·exact c
 ·exact d
theorem zF{i j k:Nat}{Z:DS}{n b a:eA}(c:cC i Z=some (.str n,Z))(d:cC j Z=some (.str b,Z))(f:cC k Z=some (.str a,Z))(g:aP n)(to:aP a) :
  mJ (dG (pW (dJ (cC i) (dJ (cC j) fO)))) (dG (bY mC (dJ (dG (cw (eX false) (cC i) (cC k))) fO))) Z=some (.str (fN a b n),Z):=by
 refine n8 (ah (bL (ae c (ae d ak)) (by show 2<=dk;unfold dk;decide)) rfl) (ah (aZ (r:=.dat (.int (if n=a then 1 else 0))) (ae (ah (au c f (x6 g.ok to.ok)) rfl) ak) ?_) rfl) ?_
 ·by_cases e:n=a
  ·rw[if_pos e,decide_eq_true e];rfl
  ·rw[if_neg e,decide_eq_false e];rfl
 ·unfold fN
  by_cases e:n=a
  ·rw[if_pos e,if_pos e];rfl
  ·rw[if_neg e,if_neg e];rfl
theorem CQ{web:aE}{i:Nat}{p:eA×List eA}(h:web[i]?=some p):cu (.lst (web.map pairD)) (.int (i:Int))=some (pairD p):=by
 rw[mP];exact lE (by rw[eo,h];rfl)
theorem Md(T:Txt mg)(I:bj P w K mg base "_law_draw" 1 (cO K 0 gV)){f:dR}{v:hQ}(F:bf K "_law_renamed" "_law_renamed" vm f v):∃fn,aO P w K mg base bh 2 f v ["_law_purse_here","_law_web_here"] (cO K 0 fn)/\pN fn:=by
 refine' l9 (j:=0) F CY (n:=1) rfl ?J ?B
 case J =>
  intro cdv A outer s H E hr;have nd:=CY.nd;cases T;have lk:jE "_law_purse_here":=⟨trivial⟩
  walk_at "S"
 case B =>
  clear T F I;intro p web h;refine' lP rfl ?w
  case w =>
   show WS _ [.io (pD p),.dat (.lst (web.map pairD)),.no,.no,.no,.no,.no] _;have bT:=h.bT;have L:cD (.lst (web.map pairD))=some web.length:=by simp[cD]
   obtain⟨a,x,M,a0,b0⟩:=eO p (m:=9) (by decide) (by decide)
   obtain⟨v1,c,N,a1,b1⟩:=eO x (m:=(web.length:Int)) (by omega) (by omega)
   obtain⟨i,rfl⟩:=zc a1;obtain⟨o,C⟩:∃o,web[i]?=some o:=⟨web[i]'(by omega),cA (by omega)⟩
   have ho:=eR C;have to:=h.txt (.inl (bg.mpr ⟨o,ho,rfl⟩));obtain⟨b,O,Q,D⟩:∃b,cu (.lst [.str "Room",.str "abcdefghi",.str "",.str "north",.str "south",.str "a b",.str "a1",.str "room-",.str "East"]) (.int a)=some (.str b)/\cF b=false/\aP b:=by
    have:a=0\/a=1\/a=2\/a=3\/a=4\/a=5\/a=6\/a=7\/a=8:=by omega
    rcases this with rfl|rfl|rfl|rfl|rfl|rfl|rfl|rfl|rfl<;>exact⟨_,rfl,by decide +kernel,ku (by decide +kernel)⟩
   have R:9<=sizeLine:=by unfold dk;decide
   have S:2<=sizeLine:=by unfold dk;decide
   refine' aj (aH (Z2:=[.io (pD x),.dat (.lst (web.map pairD)),.dat (.str b),.no,.no,.no,.no]) (v_res (n8 (ah (bL (ae rfl (ae rfl (ae rfl (ae rfl (ae rfl (ae rfl (ae rfl (ae rfl (ae rfl ak))))))))) R) rfl) (ah (cR rfl (ae rfl ak) rfl M rfl) rfl) O)) rfl (aq ?_));refine' aj (aH (Z2:=[.io (pD c),.dat (.lst (web.map pairD)),.dat (.str b),.dat (.str o.1),.no,.no,.no]) (v_res (n8 (bA rfl (ah (cR rfl (ae (eG rfl L) ak) rfl N rfl) rfl) rfl (CQ C)) rfl rfl)) rfl (aq ?_));refine' aj (aH (Z2:=[.io (pD c),.dat (.lst (web.map pairD)),.dat (.str b),.dat (.str o.1),.own (.lst []),.no,.no]) (bL ak (ro _)) rfl (aq ?_));refine' aj (gb (fun k Z=>∃e g,Fr e/\Fr g/\Z=[.io (pD c),.dat (.lst (web.map pairD)),.dat (.str b),.dat (.str o.1),.own (.lst ((jU o.1 b (web.take k)).map pairD)),e,g]) (dy rfl) ⟨_,_,.inl rfl,.inl rfl,rfl⟩ ?st ?G)
   case G =>
    rintro _ ⟨e,g,_,_,rfl⟩;rw[a7,t9];refine aq (aj (cg rfl (fL ⟨_,_,_,rfl,rfl,_,c,rfl,rfl,?_,?_⟩)))
    ·refine kN (by unfold jU;rw[a7];omega) fun z l=>?_
     obtain⟨y,U,rfl⟩:=bg.mp l;have:=h.mm y U;refine⟨BW D this.1,by rw[a7];exact this.2.1,fun n r=>?_⟩
     obtain⟨m,hm,rfl⟩:=bg.mp r;exact BW D (this.2.2 m hm)
    ·refine yM (bg.mpr ⟨o,ho,rfl⟩) ?_;show cF (fN o.1 b o.1)=false;rw[show fN o.1 b o.1=b from if_pos rfl]
     exact Q
   case st =>
    rintro k d hd _ ⟨e,g,V,W,rfl⟩;rw[eo] at hd;obtain⟨z,t,rfl⟩:=j'.mp hd;have l:=h.mm z (eR t);have hk:=(bt.mp t).1;refine⟨[.io (pD c),.dat (.lst (web.map pairD)),.dat (.str b),.dat (.str o.1),.own (.lst ((jU o.1 b (web.take k)).map pairD)),.dat (.str z.1),.dat (.lst (z.2.map .str))],by rcases V with rfl|⟨d,rfl⟩<;>rcases W with rfl|⟨d,rfl⟩<;>rfl,?_⟩
    have u:((jU o.1 b (web.take k)).map pairD).length<sizeLine:=by
     unfold jU;rw[a7,a7,l5];unfold dk;omega
    have X:(jU o.1 b (web.take (k+1))).map pairD=(jU o.1 b (web.take k)).map pairD++[pairD (fN o.1 b z.1,z.2.map (fN o.1 b))]:=by
     rw[gK t];unfold jU;rw[eW,eW];rfl
    rw[X];generalize (jU o.1 b (web.take k)).map pairD=q at *;refine' aj (aH (Z2:=[.io (pD c),.dat (.lst (web.map pairD)),.dat (.str b),.dat (.str o.1),.own (.lst q),.dat (.str z.1),.own (.lst ((z.2.map (fN o.1 b)).map .str))]) (gZ (enc:=Dat.str) (xs:=z.2) (fun n=>[.no,.dat (.str n),.dat (.str b),.dat (.str o.1)]) (fun n=>.str (fN o.1 b n)) (dy rfl) rfl ?Y ?c2 (fun n r=>zF rfl rfl rfl (l.2.2 n r) to) (fun _ _=>rfl)) ?c3 (aq ?c4))
    case Y=>unfold dk;omega
    case c2=>rintro y _ Z (rfl|⟨z,rfl⟩)<;>rfl
    case c3=>rw[fk];rfl
    case c4 =>
     exact aj (mY (GK (d:=pairD (fN o.1 b z.1,z.2.map (fN o.1 b))) (Z1:=[.io (pD c),.dat (.lst (web.map pairD)),.dat (.str b),.dat (.str o.1),.own (.lst q),.dat (.str z.1),.dat (.lst ((z.2.map (fN o.1 b)).map .str))]) rfl (ae (fx (ae (zF rfl rfl rfl l.1 to) (ae rfl ak)) S) ak) rfl u) (aq (bC ⟨.dat (.str z.1),.dat (.lst ((z.2.map (fN o.1 b)).map .str)),.inr ⟨_,rfl⟩,.inr ⟨_,rfl⟩,rfl⟩)))
def AY(fn:bc):Prop:=fn []=some (.own (.lst [.lst (oJ.map pairD),.lst (uB.map pairD)]))
theorem LG(T:Txt mg){f:dR}{a:hQ}(F:bf K "_law_rounds" "_law_rounds" vC f a):∃fn,aO P w K mg base bh 1 f a [] (aY K fn)/\AY fn:=by
 refine' df F AX (n:=0) rfl ?C ?B
 case C =>
  intro cdv A outer s H E hr;have nd:=AX.nd;cases T
  walk_at "S"
 case B=>exact rfl
theorem jZ{d:Dat}(h:jc d)(a:di d=false)(b:∀x l,d≠.tup [.str x,.lst l]):fQ (.lst [d]):=⟨yZ h b,rN (ze (eP.mpr rfl) a)⟩
theorem Ba{web:aE}(h:bB web){d:Dat}(hd:jc d)(a:di d=false)(b:∀x l,d≠.tup [.str x,.lst l]):fQ (.lst (web.map pairD++[d])):=⟨LY h.A6 (yZ hd b) (by rw[a7];have:=h.bT;show web.length+1<100;omega),rN (ze (iW _ (eP.mpr rfl)) a)⟩
theorem wY{web:aE}(h:bB web){p:eA×List eA}(a:p∈web){n:eA}(b:cF n=false)(c:aP n):fQ (.lst (web.map pairD++[pairD (n,p.2)])):=by
 rw[show web.map pairD++[pairD (n,p.2)]=(web++[(n,p.2)]).map pairD from by rw[eW];rfl]
 exact⟨oK h (by show 1<=8;decide) fun q d=>by rw[eP.mp d];exact⟨c,(h.mm p a).2⟩,yM (iW _ (eP.mpr rfl)) b⟩
theorem sx{x:eA}(tx:aP x){l:List Dat}(hl:l.length<99)(h:∀e∈l,jq e){e:Dat}(a:jq e)(b:jo ([x]++bZ) x e=false):fQ (.lst [.tup [.str x,.lst (l++[e])]]):=by
 refine⟨Kf tx (by rw[eH];show l.length+1<100;omega) fun d hd=>?_,rN (Ga (eP.mpr rfl) (IE (iW _ (eP.mpr rfl)) b))⟩
 rcases et.mp hd with hd|hd
 ·exact h d hd
 ·rw[eP.mp hd];exact a
noncomputable def D':Dat:=.lst [.str "north",.str "east",.str "south",.str "west"]
noncomputable def uJ:aE:=((ka 8).map fun k:Nat=>((Yp "z" ((k:Int)+1),["north","east","south","west"]):eA×List eA))++([("nine",["north","east","south","west"])]:aE)
def fR(x:eA)(r a:List Dat):List Dat:=[.str "web",.tup [],.lst [],.tup a,.lst [.str x],.lst [.tup [.str x]],.lst [.tup [.str x,.tup r]],.lst [.tup [.str x,.lst r,.lst r]],.lst [.lst r],
 .lst (a++[.tup [.str "Room",.lst r]]),.lst (a++[.tup [.str "abcdefghi",.lst r]]),.lst (a++[.tup [.str "",.lst r]]),.lst (a++[.tup [.str "zzzz",.lst []]]),
 .lst [.tup [.str x,.lst (r++[.str ""])]],.lst [.tup [.str x,.lst (r++[.tup [.str "north"]])]],.lst [.tup [.str x,.lst [.str "north",.str "east",.str "south"]]],
 .lst [.tup [.str x,.lst [.str "north",.str "west",.str "south",.str "east"]]],.lst (a++[.tup [.str "zzzz",D']]),
 .lst [.tup [.str x,.lst (r++[.lst [.str "north"]])]],.lst [.tup [.lst [.str x],.lst r]],.lst [.tup [.tup [.str x],.lst r]],
 .lst (a++[.tup [.lst [],.lst []]]),.lst (a++[.lst [.str x,.lst r]]),
 .lst [.tup [.lst r,.str x]],.lst [.tup [.str x,.str x]],.lst [.tup [.str x,.lst [.lst [],.lst [],.lst []]]],.lst (uJ.map pairD)]
theorem cj{d:Dat}{ds:List Dat}(h:fQ d)(hs:∀e∈ds,fQ e):∀e∈d::ds,fQ e:=fun e a=>(ey.mp a).elim (fun z=>z ▸ h) (hs e)
theorem Ij{web:aE}(h:bB web)(hw:jt web){p:eA×List eA}(c:p∈web):∀d∈fR p.1 (p.2.map .str) (web.map pairD),fQ d:=by
 have tx:=(h.mm p c).1;have i:(p.2.map Dat.str).length<99:=by rw[a7];have:=h.len c;omega
 have j:=D9 (h.mm p c).2.2;have nx:∀y:eA,cF y=false->y≠p.1:=fun y s z=>by
  have:=h.nm p c;rw[<-z,s] at this;cases this
 have str1:∀{A B:Dat->Prop},(∃x,Dat.str p.1=.str x/\aP x)\/A (.str p.1)\/B (.str p.1):=.inl ⟨_,rfl,tx⟩;have r:∀l:List eA,l.length<100->(l.all fun x=>x.cps.all (·<128)&&decide (x.length<=99))=true->∀q∈([(p.1,l)]:aE),aP q.1/\q.2.length<100/\∀n∈q.2,aP n:=fun l hl k q t=>by
  rw[eP.mp t];exact⟨tx,hl,fun n u=>ku (ia.mp k n u)⟩
 have o:∀(q:eA×List eA),q∈([q]:aE):=fun q=>eP.mpr rfl
 have two:∀{a b:Dat},((∃x,a=.str x/\aP x)\/(∃l,a=.lst l)\/∃l,a=.tup l)->((∃x,b=.str x/\aP x)\/(∃l,b=.lst l)\/∃l,b=.tup l)->jc (.tup [a,b]):=fun {a b} v k=>.tup _ (by show 2<=3;decide) fun d hd=>by
  rcases ey.mp hd with rfl|hd
  ·exact v
  ·rw[eP.mp hd];exact k
 unfold fR;refine cj ⟨.str _,fun ⟨_,e,_⟩=>nomatch e⟩ ?_
 refine cj ⟨.tup _,fun ⟨_,e,_⟩=>nomatch e⟩ ?_
 refine cj ⟨.lst _ (by decide) (by simp) (by simp),rN rfl⟩ ?_
 refine cj ⟨.tup _,fun ⟨_,e,_⟩=>nomatch e⟩ ?_
 refine cj (jZ (.str _) rfl fun _ _=>nofun) ?_
 refine cj (jZ (.tup _ (by show 1<=3;decide) fun d hd=>by rw[eP.mp hd];exact .inl ⟨_,rfl,tx⟩) rfl fun _ _=>by simp) ?_
 refine cj (jZ (two (.inl ⟨_,rfl,tx⟩) (.inr (.inr ⟨_,rfl⟩))) rfl fun _ _=>by simp) ?_
 refine cj (jZ (.tup _ (by show 3<=3;decide) fun d hd=>by
  rcases ey.mp hd with rfl|hd
  ·exact .inl ⟨_,rfl,tx⟩
  ·rcases ey.mp hd with rfl|hd
   ·exact .inr (.inl ⟨_,rfl⟩)
   ·rw[eP.mp hd];exact .inr (.inl ⟨_,rfl⟩)) rfl fun _ _=>by simp) ?_
 refine cj (jZ (.lst _) rfl fun _ _=>nofun) ?_
 refine cj (wY h c (by decide +kernel) (ku (by decide +kernel))) ?_
 refine cj (wY h c (by decide +kernel) (ku (by decide +kernel))) ?_
 refine cj (wY h c (by decide +kernel) (ku (by decide +kernel))) ?_
 refine cj ?C ?_
 case C =>
  rw[show web.map pairD++[.tup [.str "zzzz",.lst []]]=(web++([("zzzz",[])]:aE)).map pairD from by rw[eW];rfl]
  exact⟨oK h (by show 1<=8;decide) (lD (by decide +kernel)),fun g=>absurd ((j4 g).f.rg (("zzzz",[]):eA×List eA) (iW _ (o _))).1 (by show ¬3<=0;decide)⟩
 refine cj (sx tx i j (.str _ (ku (by decide +kernel))) ?D) ?_
 case D =>
  have:¬("":eA)∈[p.1]++bZ:=fun z=>by
   rcases et.mp z with z|z
   ·exact nx "" (by decide +kernel) (eP.mp z)
   ·exact absurd z (by decide +kernel)
  show (decide (("":eA)∈[p.1]++bZ)&&_)=false;rw[decide_eq_false this];rfl
 refine cj (sx tx i j (.tup _ (zH (by decide +kernel))) rfl) ?_
 refine cj ⟨kN (web:=[(p.1,["north","east","south"])]) (by show 1<100;decide) (r _ (by decide) (by decide +kernel)),yj (web:=[(p.1,["north","east","south"])]) (n:="south") (m:="north") (o _) (by show (("south","north"):eA×eA)∈dB (["north","east","south"]:List eA);decide +kernel) (by decide +kernel) (by decide +kernel)⟩ ?_
 refine cj ⟨kN (web:=[(p.1,["north","west","south","east"])]) (by show 1<100;decide) (r _ (by decide) (by decide +kernel)),yj (web:=[(p.1,["north","west","south","east"])]) (n:="north") (m:="west") (o _) (by show (("north","west"):eA×eA)∈dB (["north","west","south","east"]:List eA);decide +kernel) (by decide +kernel) (by decide +kernel)⟩ ?_
 refine cj ?E ?_
 case E =>
  rw[show web.map pairD++[.tup [.str "zzzz",D']]=(web++([("zzzz",["north","east","south","west"])]:aE)).map pairD from by rw[eW];rfl]
  exact⟨oK h (by show 1<=8;decide) (lD (by decide +kernel)),Mv hw (by decide +kernel)⟩
 refine cj (sx tx i j (.lst _ (iZ (by decide +kernel))) rfl) ?_
 refine cj (jZ (two (.inr (.inl ⟨_,rfl⟩)) (.inr (.inl ⟨_,rfl⟩))) rfl fun _ _=>by simp) ?_
 refine cj (jZ (two (.inr (.inr ⟨_,rfl⟩)) (.inr (.inl ⟨_,rfl⟩))) rfl fun _ _=>by simp) ?_
 refine cj (Ba h (two (.inr (.inl ⟨_,rfl⟩)) (.inr (.inl ⟨_,rfl⟩))) rfl fun _ _=>by simp) ?_
 refine cj (Ba h (.lst _) rfl fun _ _=>nofun) ?_
 refine cj (jZ (two (.inr (.inl ⟨_,rfl⟩)) (.inl ⟨_,rfl,tx⟩)) rfl fun _ _=>by simp) ?_
 refine cj (jZ (two (.inl ⟨_,rfl,tx⟩) (.inl ⟨_,rfl,tx⟩)) rfl fun _ _=>by simp) ?_
 refine cj (sx (l:=[.lst [],.lst []]) tx (by decide) (fun e F=>?G) (.lst _ (iZ (by decide +kernel))) rfl) ?_
 case G =>
  have:e=.lst []:=by simpa using F
  rw[this];exact .lst _ (iZ (by decide +kernel))
 refine cj ⟨kN (by decide +kernel) (lD (by decide +kernel)),fun g=>absurd (j4 g).f.bT.2 (by decide +kernel)⟩ ?_
 simp
def Cc(fn:dI):Prop:=∀p (web:aE),bB web->∃r a,fn (pD p) [.lst (web.map pairD)]=some (r,a)/\∃(z:eA×List eA) (b:Int×Int),z∈web/\r=.own (.lst (fR z.1 (z.2.map .str) (web.map pairD)))/\a=pD b
theorem O3(T:Txt mg)(C:bj P w K mg base "_law_draw" 1 (cO K 0 gV)){f:dR}{v:hQ}(F:bf K "_law_odd" "_law_odd" vq f v):∃fn,aO P w K mg base bh 2 f v ["_law_purse_here","_law_web_here"] (cO K 0 fn)/\Cc fn:=by
 refine' l9 (j:=0) F B0 (n:=1) rfl ?D ?B
 case D =>
  intro cdv A outer s H E hr;have nd:=B0.nd;cases T;have lk:jE "_law_purse_here":=⟨trivial⟩
  walk_at "S"
 case B =>
  clear T F C;intro p web h;refine' lP rfl ?w
  case w =>
   show WS _ [.io (pD p),.dat (.lst (web.map pairD)),.no,.no,.no,.no] _;have bT:=h.bT;have G:cD (.lst (web.map pairD))=some web.length:=by simp[cD]
   obtain⟨v1,b,I,a1,b1⟩:=eO p (m:=(web.length:Int)) (by omega) (by omega)
   obtain⟨i,rfl⟩:=zc a1;obtain⟨z,x⟩:∃o,web[i]?=some o:=⟨web[i]'(by omega),cA (by omega)⟩
   have y:=eR x;have hl:=h.len y;refine' aj (Ek (Z2:=[.io (pD b),.dat (.lst (web.map pairD)),.dat (.str z.1),.dat (.lst (z.2.map .str)),.no,.no]) (bA rfl (ah (cR rfl (ae (eG rfl G) ak) rfl I rfl) rfl) rfl (CQ x)) rfl (aq ?_));have c:∀d,fK (.lst (web.map pairD)) (.lst [d])=some (.own (.lst (web.map pairD++[d]))):=fun d=>if_pos (by rw[a7];show web.length+1<=dk;unfold dk;omega)
   have k:∀d,fK (.lst (z.2.map .str)) (.lst [d])=some (.own (.lst (z.2.map .str++[d]))):=fun d=>if_pos (by rw[a7];show z.2.length+1<=dk;unfold dk;omega)
   suffices g:∀a r:List Dat,(∀d,fK (.lst a) (.lst [d])=some (.own (.lst (a++[d]))))->(∀d,fK (.lst r) (.lst [d])=some (.own (.lst (r++[d]))))->WS _ [.io (pD b),.dat (.lst a),.dat (.str z.1),.dat (.lst r),.no,.no] fun o=>∃R Z q,o=.ret R Z/\Z[0]?=some (.io q)/\∃t,R=.own (.lst (fR z.1 r a))/\q=pD t from by
    obtain⟨o,e,R,Z,q,rfl,J,t,rfl,rfl⟩:=g _ _ c k;exact⟨_,e,_,_,_,rfl,J,z,t,y,rfl,rfl⟩
   clear c k;intro a r c k;have u:1<=sizeLine:=by unfold dk;decide
   have l:2<=sizeLine:=by unfold dk;decide
   have s3:3<=sizeLine:=by unfold dk;decide
   have s4:4<=sizeLine:=by unfold dk;decide
   refine' aj (aH (Z2:=[.io (pD b),.dat (.lst a),.dat (.str z.1),.dat (.lst r),.own (.lst ((fR z.1 r a).take 9)),.no]) rfl rfl (aq ?_));refine' aj (aH (Z2:=[.io (pD b),.dat (.lst a),.dat (.str z.1),.dat (.lst r),.own (.lst ((fR z.1 r a).take 13)),.no]) (au rfl (ah (bL (ae (ah (au rfl rfl (c _)) rfl) (ae (ah (au rfl rfl (c _)) rfl) (ae (ah (au rfl rfl (c _)) rfl) (ae (ah (au rfl rfl (c _)) rfl) ak)))) s4) rfl) rfl) rfl (aq ?_));refine' aj (aH (Z2:=[.io (pD b),.dat (.lst a),.dat (.str z.1),.dat (.lst r),.own (.lst ((fR z.1 r a).take 16)),.no]) (au rfl (ah (bL (ae (ah (bL (ae (fx (ae rfl (ae (ah (au rfl rfl (k _)) rfl) ak)) l) ak) u) rfl) (ae (ah (bL (ae (fx (ae rfl (ae (ah (au rfl rfl (k _)) rfl) ak)) l) ak) u) rfl) (ae rfl ak))) s3) rfl) rfl) rfl (aq ?_));refine' aj (aH (Z2:=[.io (pD b),.dat (.lst a),.dat (.str z.1),.dat (.lst r),.own (.lst ((fR z.1 r a).take 18)),.no]) (au rfl (ah (bL (ae rfl (ae (ah (au rfl rfl (c _)) rfl) ak)) l) rfl) rfl) rfl (aq ?_));refine' aj (aH (Z2:=[.io (pD b),.dat (.lst a),.dat (.str z.1),.dat (.lst r),.own (.lst ((fR z.1 r a).take 21)),.no]) (au rfl (ah (bL (ae (ah (bL (ae (fx (ae rfl (ae (ah (au rfl rfl (k _)) rfl) ak)) l) ak) u) rfl) (ae rfl (ae rfl ak))) s3) rfl) rfl) rfl (aq ?_));refine' aj (aH (Z2:=[.io (pD b),.dat (.lst a),.dat (.str z.1),.dat (.lst r),.own (.lst ((fR z.1 r a).take 23)),.no]) (au rfl (ah (bL (ae (ah (au rfl rfl (c _)) rfl) (ae (ah (au rfl rfl (c _)) rfl) ak)) l) rfl) rfl) rfl (aq ?_))
   refine' aj (aH (Z2:=[.io (pD b),.dat (.lst a),.dat (.str z.1),.dat (.lst r),.own (.lst ((fR z.1 r a).take 26)),.no]) rfl rfl (aq ?_));refine' aj (aH (Z2:=[.io (pD b),.dat (.lst a),.dat (.str z.1),.dat (.lst r),.own (.lst ((fR z.1 r a).take 26)),.own (.lst ((uJ.take 8).map pairD))]) rfl rfl (aq ?_));exact aj (cg (r:=.own (.lst (fR z.1 r a))) (Z1:=[.io (pD b),.dat (.lst a),.dat (.str z.1),.dat (.lst r),.dat (.lst ((fR z.1 r a).take 26)),.dat (.lst ((uJ.take 8).map pairD))]) rfl (fL ⟨_,_,_,rfl,rfl,b,rfl,rfl⟩))
def Ct(fn:bc):Prop:=∀a:List Int,a.length<=63->(∀n∈a,jJ n)->fn [.bW a]=some (.dat (.bl true))
theorem JV{caps:List (Option Nat)}{k j:Nat}{fi:IF}{g:GF}{fc:BF}{fe:DF}{out ds:List Dat}{Z Z1 Z2 Z3 Ze:DS}{c0 a:Dat}(h:fi Z=some (ds,Z1))(b:a9 (some (k,j)) caps Z1=Z2)(c:caps[k]?=some (some j))(d:Z2[j]?=some (.own c0))
 (hl:compLoop g fc fe ds [] ((bX caps Z2).set k (.io c0))=some (out,Ze))(e:Ze[k]?=some (.io a))(f:Z2.set j (.own a)=Z3):dm caps (some (k,j)) fi g fc fe Z=some (.own (.lst out),Z3):=by
 dsimp only[dm];simp only[h];simp only[hH,b,c,if_true,d,hl,e,f]
theorem qP{fn:dI}{W d x:Dat}{p q:Int×Int}{t:Slot}(b:Fr t)(e:fn (pD p) [W]=some (.own d,pD q)){xs a:List Dat}(hz:a.length<100):compLoop (kD 1) (fun Z=>some (true,Z)) (dG (j0 fn 2 (dJ (cC 3) fO))) (x::xs) a [.no,t,.io (pD p),.dat W]=compLoop (kD 1) (fun Z=>some (true,Z)) (dG (j0 fn 2 (dJ (cC 3) fO))) xs (a++[d]) [.no,.dat x,.io (pD q),.dat W]:=by
 have c:dG (j0 fn 2 (dJ (cC 3) fO)) [.no,.dat x,.io (pD p),.dat W]=some (d,[.no,.dat x,.io (pD q),.dat W]):=ah (cR rfl (ae rfl ak) rfl e rfl) rfl;have f:kD 1 x [.no,t,.io (pD p),.dat W]=some [.no,.dat x,.io (pD p),.dat W]:=by rcases b with rfl|⟨d,rfl⟩<;>rfl
 show (kD 1 x _).bind _=_;rw[f];show (dG _ _).bind _=_;rw[c];exact if_pos ⟨by unfold dk;omega,rfl⟩
theorem L3{fn:dI}(s:pN fn){web:aE}(h:bB web)(p:Int×Int){a s3 s4:Slot}:∃ds q,dm [none,none,some 1,some 2] (some (2,1)) (nI (dJ (fC (.int 4)) fO)) (kD 1) (fun Z=>some (true,Z)) (dG (j0 fn 2 (dJ (cC 3) fO))) [a,.own (pD p),.dat (.lst (web.map pairD)),s3,s4]=some (.own (.lst ds),[a,.own (pD q),.dat (.lst (web.map pairD)),s3,s4])/\ds.length=4/\∀d∈ds,fQ d:=by
 have R:∀p:Int×Int,∃d q,fn (pD p) [.lst (web.map pairD)]=some (.own d,pD q)/\fQ d:=fun p=>by
  obtain⟨_,_,e,d,q,rfl,rfl,b⟩:=s p web h;exact⟨d,q,e,b⟩
 obtain⟨f,g,i,j⟩:=R p;obtain⟨k,l,m,n⟩:=R g;obtain⟨o,r,t,u⟩:=R l;obtain⟨v,c,x,y⟩:=R r;refine⟨[f,k,o,v],c,JV (ds:=[.int 0,.int 1,.int 2,.int 3]) (Z1:=[a,.own (pD p),.dat (.lst (web.map pairD)),s3,s4]) (Z2:=[a,.own (pD p),.dat (.lst (web.map pairD)),s3,s4]) (Ze:=[.no,.dat (.int 3),.io (pD c),.dat (.lst (web.map pairD))]) rfl rfl rfl rfl ?_ rfl rfl,rfl,cj j (cj n (cj u (cj y (by simp))))⟩
 show compLoop _ _ _ _ _ [.no,.no,.io (pD p),.dat (.lst (web.map pairD))]=_;rw[qP (.inl rfl) i (by decide),qP (.inr ⟨_,rfl⟩) m (by show 1<100;decide),qP (.inr ⟨_,rfl⟩) t (by show 2<100;decide),qP (.inr ⟨_,rfl⟩) x (by show 3<100;decide)]
 rfl
theorem M7(T:Txt mg){exc:Nat->dR}{D G I:bc}{l:gh}{J L M N O:dI}(q1:bj P w K mg base "_law_purse" 2 (aY K D))(Q:Ee D)(q2:bj P w K mg base "_law_floor" 3 (cO K 0 J))(R:CP J)(q3:bj P w K mg base "_law_web" 4 (aY K G))(s3:zg G)
 (q4:bj P w K mg base "_law_turned_web" 2 (cO K 0 L))(s4:yy L)(S:j8 P w K mg base "must_web" 4 (iO K l))(s5:qI exc l)(q6:bj P w K mg base "_law_ring" 2 (cO K 0 M))(s6:pN M)(q7:bj P w K mg base "_law_renamed" 2 (cO K 0 N))(s7:pN N)(q8:bj P w K mg base "_law_odd" 2 (cO K 0 O))(s8:Cc O)(q9:bj P w K mg base "_law_rounds" 1 (aY K I))(s9:AY I)(Y:bj P w K mg base "_law_refused" 6 (aY K oS)){f:dR}{fd:hQ}(F:bf K "law" "law" uM f fd):∃fn,aO P w K mg base bh 7 f fd ["_law_script"] (aY K fn)/\Ct fn:=by
 have S:=PX S;refine' df F yH (n:=1) rfl ?U ?V
 case U =>
  intro cdv A outer s H E hr;have nd:=yH.nd;cases T;have lk:jE "_law_purse_here":=⟨trivial⟩
  walk_at "S"
 case V =>
  clear T F q1 q2 q3 q4 S q6 q7 q8 q9 Y;intro i RD U;obtain⟨p0,e1⟩:=Q i RD U;obtain⟨_,_,e2,rs,p2,rfl,rfl,r⟩:=R p0 7 (by decide) (by decide)
  have so:∀x∈rs,rQ rs x.2:=fun x _=>r.fl.some x.2
  have f8:=r.fl.bT;have e3:=s3 rs (by omega) (fun y hy=>r.fl.ok hy) fun x o k hk=>(BJ hk (so x o)).1
  have ew:(rs.map fun x=>(x.1,bN rs x.2 0++(bN rs x.2 1).reverse++(bN rs x.2 2).reverse++bN rs x.2 3))=pQ rs:=pA fun x o=>by rw[IX (so x o)]
  rw[ew] at e3;obtain⟨u,RH⟩:=r.web;have p:=u.bT;obtain⟨_,_,e4,c,p4,rfl,rfl,tw⟩:=s4 p2 (pQ rs) p.1 p.2 fun z v=>by
   have a:=(u.rg z v).1;have b:=u.len v;omega
  obtain⟨h,hw⟩:=tw.ok u RH;obtain⟨_,_,e6,j,W,rfl,rfl,B⟩:=s6 p4 c h;have eM:pT l [.lst (c.map pairD)]=some (.dat .aB):=by
   unfold pT;obtain⟨a,e,⟨_,rfl⟩|⟨z,_⟩⟩:=s5 _ h.A6
   ·rw[e]
   ·exact absurd ⟨c,rfl,Kp h hw⟩ z
  refine' dS rfl ?w
  case w =>
   show WS _ [.dat (.bW i),.no,.no,.no,.no] _;refine' aj (aH (Z2:=[.dat (.bW i),.own (pD p0),.no,.no,.no]) (aZ (ae rfl ak) e1) rfl (aq ?_));refine' aj (aH (Z2:=[.dat (.bW i),.own (pD p4),.own (.lst (c.map pairD)),.no,.no]) (cR rfl (ae (ah (aZ (ae (ah (cR rfl (ae rfl ak) rfl e2 rfl) rfl) ak) e3) rfl) ak) rfl e4 rfl) rfl (aq ?_));refine' aj (aH (Z2:=[.dat (.bW i),.own (pD W),.dat (.lst (c.map pairD)),.own j,.no]) (cR rfl (ae rfl ak) rfl e6 rfl) rfl (aq ?_));refine' fq (Z1:=[.dat (.bW i),.own (pD W),.dat (.lst (c.map pairD)),.dat j,.no]) (v_or (ff (dM (ah (aZ (ae rfl (ae rfl ak)) (qN (.inl rfl) B.f B.g)) rfl) rfl)) (rf rfl (ff (dM (ah (aZ (ae rfl (ae rfl ak)) (qN (.inr rfl) B.f B.g)) rfl) rfl)))) rfl ?_;obtain⟨ds,q,eC,l4,b4⟩:=L3 s7 h W (a:=.dat (.bW i)) (s3:=.dat j) (s4:=.no);obtain⟨_,_,e8,z,X,v,rfl,rfl⟩:=s8 q c h;have b8:=Ij h hw v;have l8:(fR z.1 (z.2.map .str) (c.map pairD)).length=27:=rfl;generalize fR z.1 (z.2.map .str) (c.map pairD)=od at *;refine' aj (gb (ds:=ds++od++[.lst (oJ.map pairD),.lst (uB.map pairD)]) (Z1:=[.dat (.bW i),.own (pD X),.dat (.lst (c.map pairD)),.dat j,.no]) (fun k Z=>∃t,Fr t/\Z=[.dat (.bW i),.own (pD X),.dat (.lst (c.map pairD)),.dat j,t]) (dy (ah (au (ah (au (ah eC rfl) (ah (cR rfl (ae rfl ak) rfl e8 rfl) rfl) (if_pos ?Q)) rfl) (ah (aZ ak s9) rfl) (if_pos ?R)) rfl)) ⟨_,.inl rfl,rfl⟩ ?st ?fin)
   case Q=>rw[l4,l8];unfold dk;decide
   case R=>rw[eH,l4,l8];show 31+2<=dk;unfold dk;decide
   case fin =>
    rintro _ ⟨t,_,rfl⟩;exact aq (aj (cg (au (ah (aZ (ae rfl ak) eM) rfl) rfl rfl) (fL ⟨_,rfl⟩)))
   case st =>
    rintro k x o _ ⟨t,ft,rfl⟩;have C:fQ x:=by
     rcases et.mp (eR o) with m|m
     ·rcases et.mp m with m|m
      ·exact b4 x m
      ·exact b8 x m
     ·exact cj Np (cj Rc (by simp)) x m
    refine⟨[.dat (.bW i),.own (pD X),.dat (.lst (c.map pairD)),.dat j,.dat x],by rcases ft with rfl|⟨d,rfl⟩<;>rfl,?_⟩
    exact fq (v_or (ff (dM (ah (aZ (ae rfl (ae rfl ak)) (qN (.inl rfl) C.f C.g)) rfl) rfl)) (rf rfl (ff (dM (ah (aZ (ae rfl (ae rfl ak)) (qN (.inr rfl) C.f C.g)) rfl) rfl)))) rfl (bC ⟨_,.inr ⟨_,rfl⟩,rfl⟩)
end
section
open W
section
variable{P:iN}{w:nE}{K:fj}{mg:eA->Option bR}{base:nS}
structure DI (K:fj) (x:eA) (s:Uz) (f:dR):Prop where
 a:u1 K hE x=some (some (.ref f))
 l:∃fd,bf K x x s f fd
 k:VA K (.ref f)=true
theorem DI.ok{x:eA}{s:Uz}{f:dR}{e:hQ}{c:List eA}{k:Nat}{sp:Sp}{h:nS}(d:DI K x s f)(X:K.In h)(G:h.Ns hE mg)(F:bf K x x s f e)(o:aO P w K mg base bh k f e c sp)(b:∀(kV g pm:bR) (j:Option dR) (i ct:bR) (us:List bR),us.length=c.length->Yn (W' x x (l7 s) (fZ s) (aJ s) .none kV g pm j i ct) ⟨us,[]⟩=pure (c.zip us)):bj P w K mg base x k sp:=⟨f,e,c,o,Ue X G d.a,d.k,F.binds b⟩
theorem DI.go{h:nS}{x:eA}{s:Uz}{f:dR}{a:List eA}{k:Nat}{e:Type}{Sp:e->Sp}{S:e->Prop}(X:K.In h)(G:h.Ns hE mg)(d:DI K x s f)(o:∀{c:hQ},bf K x x s f c->∃fn,aO P w K mg base bh k f c a (Sp fn)/\S fn)(b:∀(kV g pm:bR) (j:Option dR) (i ct:bR) (us:List bR),us.length=a.length->Yn (W' x x (l7 s) (fZ s) (aJ s) .none kV g pm j i ct) ⟨us,[]⟩=pure (a.zip us)):∃fn,bj P w K mg base x k (Sp fn)/\S fn:=by
 obtain⟨c,F⟩:=d.l;obtain⟨fn,q,r⟩:=o F;exact⟨fn,d.ok X G F q b,r⟩
theorem DI.qV{h:nS}{x:eA}{s:Uz}{f:dR}{c:List eA}{k:Nat}{g:Type}{Sp:g->Sp}{S:g->Prop}(X:K.In h)(G:h.Ns hE mg)(d:DI K x s f)(o:∀{e:hQ},bf K x x s f e->∃fn,aO P w K mg base (dF P w) k f e c (Sp fn)/\S fn)(b:∀(kV i pm:bR) (m:Option dR) (j ct:bR) (us:List bR),us.length=c.length->Yn (W' x x (l7 s) (fZ s) (aJ s) .none kV i pm m j ct) ⟨us,[]⟩=pure (c.zip us)):∃fn,j8 P w K mg base x k (Sp fn)/\S fn:=by
 obtain⟨e,F⟩:=d.l;obtain⟨fn,q,r⟩:=o F;exact⟨fn,⟨f,e,c,q,Ue X G d.a,d.k,F.binds b⟩,r⟩
theorem GR{C:dR}{v:bR}{b:Bool}(h:X5 K C v=some b):(YR K C).isSome=true:=by
 unfold X5 at h;cases e:YR K C with
 | none=>rw[e] at h;cases h
 | some c=>rfl
theorem len0{a:Type}:∀{us:List a},us.length=0->us=[]:=Wc.mp
theorem Cf{b:Type}:∀{us:List b},us.length=1->∃a,us=[a]:=Yj.mp
theorem Dt{c:Type}{us:List c}(h:us.length=2):∃a b,us=[a,b]:=by
 cases us with
 | nil=>cases h
 | cons a r=>obtain⟨b,rfl⟩:=Cf (Nat.succ.inj h);exact⟨a,b,rfl⟩
theorem DX{d:Type}{us:List d}(h:us.length=3):∃a b c,us=[a,b,c]:=by
 cases us with
 | nil=>cases h
 | cons a r=>obtain⟨b,c,rfl⟩:=Dt (Nat.succ.inj h);exact⟨a,b,c,rfl⟩
theorem GZ{e:Type}{us:List e}(h:us.length=4):∃a b c d,us=[a,b,c,d]:=by
 cases us with
 | nil=>cases h
 | cons a r=>obtain⟨b,c,d,rfl⟩:=DX (Nat.succ.inj h);exact⟨a,b,c,d,rfl⟩
noncomputable def tF(K:fj):Sp:=fun vs H Q _=>∃(a:dR) (b:List Int),vs=[.ref a]/\cf K H a (b.map V.int)/\b.length<=63/\(∀n∈b,jJ n)/\∀c,Q (.bl true) c
theorem Nr{fn:bc}(s:Ct fn)(vs:List V)(H:Hp)(Q:VK)(E:XK)(h:tF K vs H Q E):aY K fn vs H Q E:=by
 obtain⟨a,b,rfl,c,hl,d,k⟩:=h;refine⟨H,[.bW b],_,ag.refl H,⟨.ref a,[],rfl,⟨a,rfl,c⟩,rfl⟩,s b hl d,?_⟩;rintro v e Hi2 _ _ _ _ f;cases (f)
 exact k e
end
local macro_rules | `(tactic| walk_at "bn")=>`(tactic| (intro _ _ _ _ _ _ us hl;first | (have e:=len0 hl;subst e;rfl) | (obtain⟨_,e⟩:=Cf hl;subst e;rfl) | (obtain⟨_,_,e⟩:=Dt hl;subst e;rfl) | (obtain⟨_,_,_,e⟩:=DX hl;subst e;rfl) | (obtain⟨_,_,_,_,e⟩:=GZ hl;subst e;rfl)))
theorem all_mk{l:Zv}{w:nE}{K:fj}{h:nS}{mg:eA->Option bR}{fa Z RB RD RE RF RG RH RI RJ RK RL RM RN RO RP RQ RS RT RU RV RW RX RY RZ R0 R1 R3 R4 R5 R6 R7 R8 R9 R' b CT o0 o1 o2 o3 o4 o5 o6:dR}{f:dR}{t1 t2 t3 t4 t5 t6 t7:Tok}{nW:Nat}{Ug:Array (Option bR)}(X:K.In h)(G:h.Ns hE mg)(Uh:mg "law"=some (.ref fa))
 (Sg:DI K "follower" vR Z)
 (Sh:DI K "is_name" xN RB)
 (Si:DI K "is_pair" uR RD)
 (Sj:DI K "is_ring" xF RE)
 (Sk:DI K "has_form" xX RF)
 (Sl:DI K "ties_are_shared" vb RG)
 (Sm:DI K "corners_of" xt RH)
 (Sn:DI K "corner_closes" wU RI)
 (So:DI K "corners_close" ym RJ)
 (Sq:DI K "row_along" uC RK)
 (Sr:DI K "wall_has_row" u9 RL)
 (Ss:DI K "has_one_of" wA RM)
 (Su:DI K "all_reached" v8 RN)
 (Sv:DI K "ties_of" u5 RO)
 (Sw:DI K "threes_of" uK RP)
 (Sx:DI K "must_web" xG RQ)
 (Sy:DI K "bars" uS RS)
 (Sz:DI K "_law_mixed" vg RT)
 (SA:DI K "_law_purse" yn RU)
 (SD:DI K "_law_draw" xa RV)
 (SE:DI K "_law_names" vV RW)
 (SG:DI K "_law_cut" xp RX)
 (SH:DI K "_law_floor" wd RY)
 (SI:DI K "_law_meets" wV RZ)
 (SJ:DI K "_law_side" vQ R0)
 (SK:DI K "_law_neighbours" vo R1)
 (SM:DI K "_law_web" wt R3)
 (SN:DI K "_law_turned_web" vM R4)
 (SO:DI K "_law_ring" vK R5)
 (SQ:DI K "_law_odd" vq R6)
 (SS:DI K "_law_rounds" vC R7)
 (SU:DI K "_law_renamed" vm R8)
 (SV:DI K "_law_refused" vw R9)
 (r:DI K "law" uM R')
 (B:u1 K hE "len"=some none)
 (C:u1 K hE "int"=some none)
 (c:u1 K hE "isinstance"=some none)
 (p:u1 K hE "range"=some none)
 (D:u1 K hE "min"=some none)
 (E:u1 K hE "max"=some none)
 (I:u1 K hE "all"=some none)
 (t:u1 K hE "dict"=some none)
 (g:u1 K hE "sorted"=some none)
 (q:u1 K hE "tuple"=some none)
 (u:u1 K hE "list"=some none)
 (J:u1 K hE "str"=some none)
 (x:u1 K hE "bool"=some none)
 (L:u1 K hE "any"=some none)
 (M:u1 K hE "set"=some none)
 (N:u1 K hE "abs"=some none)
 (O:u1 K hE "zip"=some none)
 (V:u1 K hE "NoWeb"=some (some (.ref b)))
 (aT:u1 K hE "TouchError"=some (some (.ref CT)))
 (Ui:X6 K b [.type "ValueError",.type "Exception",.type "BaseException",.type "object"] "ValueError.__new__"=true)
 (Uj:aaB K (.ref b) (.ref CT)=some true)
 (Uk:Xk K (.ref b) "__getattribute__"=some (some (.builtin "BaseException.__getattribute__")))
 (Ul:Xk K (.ref b) "__getattr__"=some none)
 (Um:Xk K (.ref b) "__class__"=some (some (.builtin "object.__class__")))
 (Y:X5 K b (.type "BaseException")=some true)
 (Uo:X5 K b (.type "object")=some true)
 (Uq:u1 K hE "NoCut"=some (some (.ref o0)))
 (y0:UY K (.ref b) (.ref o0)=some false)
 (Ur:u1 K hE "NoFloor"=some (some (.ref o1)))
 (y1:UY K (.ref b) (.ref o1)=some false)
 (Us:u1 K hE "NoName"=some (some (.ref o2)))
 (y2:UY K (.ref b) (.ref o2)=some false)
 (Ut:u1 K hE "NoRoom"=some (some (.ref o3)))
 (y3:UY K (.ref b) (.ref o3)=some false)
 (Uu:u1 K hE "NoText"=some (some (.ref o4)))
 (y4:UY K (.ref b) (.ref o4)=some false)
 (Uv:u1 K hE "NoTinting"=some (some (.ref o5)))
 (y5:UY K (.ref b) (.ref o5)=some false)
 (Uw:u1 K hE "Twice"=some (some (.ref o6)))
 (y6:UY K (.ref b) (.ref o6)=some false)
 (yw:UY K (.ref b) (.ref b)=some true)
 (aW:u1 K hE "WALLS"=some (some (.ref f)))
 (lW:K.lookup f=some ⟨.type "tuple",none,.seq #[.str "north" t1,.str "east" t2,.str "south" t3,.str "west" t4] nW,Ug⟩)
 (aM:u1 K hE "MOST_ROOMS"=some (some (.int 8 t5)))
 (aL:u1 K hE "LONGEST_NAME"=some (some (.int 8 t6)))
 (aR:u1 K hE "FEWEST_NEIGHBOURS"=some (some (.int 3 t7))) :
  ∃fd:hQ,(∀(s:dr) (v:bR),Zo s fd ⟨[v],[]⟩ [("_law_script",v)])/\∀base:nS,K.In base->base.Ns hE mg->aO l.prog w K mg base bh 7 fa fd ["_law_script"] (tF K):=by
 have e:=Uh.symm.trans (Ue X G r.a);cases e;have T:Txt mg:=⟨qe X G B,qe X G C,qe X G c,qe X G p,qe X G D,qe X G E,qe X G I,qe X G t,qe X G g,qe X G q,qe X G u,qe X G J,qe X G x⟩;obtain⟨Q,y⟩:=r.l;obtain⟨exc,q0⟩:∃exc:Nat->dR,exc 0=b:=⟨fun _=>b,rfl⟩
 subst q0;have X0:vj K mg "NoWeb" (exc 0):=⟨Ue X G V,_,_,_,_,PySem.F.excBase_ValueError,Ui⟩;have hN:Zj K (.ref (exc 0)) [.ref o0,.ref o1,.ref o2,.ref o3,.ref o4,.ref o5,.ref o6]=some false:=by
  simp only[Zj,y0,y1,y2,y3,y4,y5,y6]
 obtain⟨_,_,_,_,_,_,_,_,_,UA,_,_⟩:=id y.ex;refine⟨Q,fun s v=>by rw[UA];exact .of_eq rfl,fun base _ _=>?_⟩
 have go:=@DI.go l.prog w K mg base h;have qV:=@DI.qV l.prog w K mg base h;obtain⟨_,d,rfl⟩:=go X G SD (fun F=>⟨_,Qc T F,rfl⟩) (by walk_at "bn")
 have i:fY K mg "WALLS" (.tup [.str "north",.str "east",.str "south",.str "west"]):=⟨.ref f,_,Ue X G aW,rfl,fun H=>⟨f,[.str "north",.str "east",.str "south",.str "west"],rfl,.inr ⟨_,_,_,lW,rfl,rfl,(by show 4<=dk;unfold dk;decide),.cons ⟨_,rfl⟩ (.cons ⟨_,rfl⟩ (.cons ⟨_,rfl⟩ (.cons ⟨_,rfl⟩ .nil)))⟩,⟨_,_,rfl,rfl,_,_,rfl,rfl,_,_,rfl,rfl,_,_,rfl,rfl,rfl⟩⟩⟩
 have gM:fY K mg "MOST_ROOMS" (.int 8):=⟨.int 8,_,Ue X G aM,⟨_,rfl⟩,fun H=>rfl⟩
 have gL:fY K mg "LONGEST_NAME" (.int 8):=⟨.int 8,_,Ue X G aL,⟨_,rfl⟩,fun H=>rfl⟩
 have gT:wq K mg "WALLS" B7:=⟨f,_,_,_,Ue X G aW,lW,rfl,rfl,rfl,(by show 4<=dk;unfold dk;decide),.cons ⟨_,rfl⟩ (.cons ⟨_,rfl⟩ (.cons ⟨_,rfl⟩ (.cons ⟨_,rfl⟩ .nil)))⟩
 have gF:fY K mg "FEWEST_NEIGHBOURS" (.int 3):=⟨.int 3,_,Ue X G aR,⟨_,rfl⟩,fun H=>rfl⟩
 have R:=qe X G L;have o:=qe X G M;have S:=qe X G O;have U:=qe X G N;obtain⟨_,SW,SX⟩:=go X G Sh (OO T i gL) (by walk_at "bn")
 obtain⟨_,z,A⟩:=go X G Sg (Pp T i gT) (by walk_at "bn")
 obtain⟨_,SY,S6⟩:=go X G Si (LQ T SW SX) (by walk_at "bn")
 obtain⟨_,S7,S8⟩:=go X G Sj (Oz T gF o) (by walk_at "bn")
 obtain⟨_,S9,Ta⟩:=go X G Sk (Km T i gM o SY S6 S7 S8) (by walk_at "bn")
 obtain⟨_,Tb,Tc⟩:=go X G Sl (JN T) (by walk_at "bn")
 obtain⟨_,j,k⟩:=go X G Sm (PB T S) (by walk_at "bn")
 obtain⟨_,Td,Te⟩:=go X G Sn (Pk T i z A) (by walk_at "bn")
 obtain⟨_,Tf,Tg⟩:=go X G So (K8 T j k Td Te) (by walk_at "bn")
 obtain⟨_,Th,Ti⟩:=go X G Sq (Ox T) (by walk_at "bn")
 obtain⟨_,Tj,Tn⟩:=go X G Sr (O2 T j k z A Th Ti) (by walk_at "bn")
 obtain⟨_,To,Tp⟩:=go X G Ss (QC T R) (by walk_at "bn")
 obtain⟨_,Tq,Tr⟩:=go X G Su (Ge T i To Tp) (by walk_at "bn")
 obtain⟨_,Tt,Tu⟩:=go X G Sv (Ng T i) (by walk_at "bn")
 obtain⟨_,Tv,Tw⟩:=go X G Sw (IM T j k) (by walk_at "bn")
 obtain⟨_,m,n⟩:=qV X G Sx (Lu T X0 i S9 Ta Tb Tc Tf Tg Tj Tn Tq Tr Tv Tw Tt Tu) (by walk_at "bn")
 obtain⟨_,Tx,Tz⟩:=qV X G Sy (Ol m n) (by walk_at "bn")
 obtain⟨_,TB,TC⟩:=go X G Sz (Hq T) (by walk_at "bn")
 obtain⟨_,TF,TH⟩:=go X G SA (O5 T U TB TC) (by walk_at "bn")
 obtain⟨_,TJ,TK⟩:=go X G SE (IL T d) (by walk_at "bn")
 obtain⟨_,TL,TM⟩:=go X G SG (Gq T d) (by walk_at "bn")
 obtain⟨_,TN,TQ⟩:=go X G SH (La T d TJ TK TL TM) (by walk_at "bn")
 obtain⟨_,TR,TU⟩:=go X G SI (K' T) (by walk_at "bn")
 obtain⟨_,TV,TX⟩:=go X G SJ (FI T TR TU) (by walk_at "bn")
 obtain⟨_,TY,TZ⟩:=go X G SK (J1 T TV TX) (by walk_at "bn")
 obtain⟨_,T1,T2⟩:=go X G SM (Ri T TY TZ) (by walk_at "bn")
 obtain⟨_,T3,T4⟩:=go X G SN (IP T d) (by walk_at "bn")
 obtain⟨_,T5,T6⟩:=go X G SO (QU T d) (by walk_at "bn")
 obtain⟨_,T7,T8⟩:=go X G SQ (O3 T d) (by walk_at "bn")
 obtain⟨_,T9,Ua⟩:=go X G SS (LG T) (by walk_at "bn")
 obtain⟨_,Ub,Uc⟩:=go X G SU (Md T d) (by walk_at "bn")
 obtain⟨_,Ud,rfl⟩:=go X G SV (fun F=>⟨_,EZ (Ue X G aT) Uj (qe X G c) (Ue X G V) ⟨Uk,Ul,Um,Y,Uo,GR Y⟩ yw (Ue X G Uq) (Ue X G Ur) (Ue X G Us) (Ue X G Ut) (Ue X G Uu) (Ue X G Uv) (Ue X G Uw) hN m n Tx Tz F,rfl⟩) (by walk_at "bn")
 obtain⟨fnL,oL,sL⟩:=M7 (P:=l.prog) (w:=w) (base:=base) T TF TH TN TQ T1 T2 T3 T4 m n T5 T6 Ub Uc T7 T8 T9 Ua Ud y;exact oL.imp (Nr sL)
theorem walk{l:Zv}{q:iN}{c:List eA}{y:(eA->Option bR)->nS->Prop}{i:nE->nS->Prop}{d:DefRec}{K:Params->fj}(A:l.most=some 63)(j:d.params.defaults=[])
 (B:∀(w:nE) (h:nS),i w h->(K w.params).In h)
 (F:∀(w:nE) (mg:eA->Option bR) (fa:dR) (h:nS),(K w.params).In h->h.Ns hE mg->mg d.name=some (.ref fa) ->
   ∃e:hQ,(∀(s:dr) (u:bR),Zo s e ⟨[u],[]⟩ [("_law_script",u)])/\∀base:nS,(K w.params).In base->base.Ns hE mg->aO l.prog w (K w.params) mg base bh 7 fa e ["_law_script"] (tF (K w.params))) :
  W.WalkO q c y i l.row.toRowW d [] (fun f vs=>PySem.call f vs) :=
 by
 intro w s0 s1 mg mb G Y fa o pm cd doc dV kV ho hd hcd m p C args vals as D E hr I hx;cases Dflts.none m j;cases Dflts.noKw m;obtain⟨a,vs,t,rfl,rfl,J,L,v⟩:=OJ A D I;have x:=B w _ Y;obtain⟨e,M,N⟩:=F w mg fa _ x G.T.g p;have O:∀n∈t,jJ n:=fun n hm=>PyData.bits_of_layable (layableW_item (layW_cons E).1 (.int n) (bg.mpr ⟨n,hm,rfl⟩))
 refine enter_call (Vo (J' x G.T.g G.T.b G.T.builtins G.T.nolimit C J L (sq v (by decide)) ⟨rfl,by decide,by decide⟩ N M (fun H _ P=>⟨a,t,rfl,P,v,O,fun _=>rfl⟩) fun _ _ _ z=>z) fun r s' Q=>?_)
 obtain⟨rfl,R,S,U⟩:=Q;exact⟨.inl ⟨.bool true,.bool true,[],rfl,fun _=>rfl,.bool true,QX l _,fun _=>⟨XX,fun _ hm=>nomatch hm⟩⟩,R,S,U⟩
end
end
end L2
open PySem PySem.W PyProof.Rows
local macro_rules | `(tactic| walk_at "df") => `(tactic| (refine' ⟨_, L2.GO ?l ?c ?k⟩; (case l => k_is); (case c => k_is); (case k => k_is)))
local macro_rules | `(tactic| walk_at "di") => `(tactic| (refine' L2.DI.mk ?a ?b ?c; (case a => k_is); (case b => walk_at "df"); (case c => first | k_is | kit_is)))
namespace PySem.W.Fast
def tw15332693199587633443:=()
def tw10633549707324116501:=()
def tw885181934347133406:=()
def tw11643741557485172509:=()
def tw812632688591403903:=()
def tw9655506890450326672:=()
def tw16420337989971157300:=()
def tw17201336304591981158:=()
def tw5688068928781720100:=()
def tw9583244658362500371:=()
def tw4808431278437996214:=()
def tw10270724046881376377:=()
def tw14539062915999079642:=()
def tw1739516721745810660:=()
def tw7064313247161087936:=()
def tw2593669935072326405:=()
def tw12726770524251945129:=()
def tw2886021562955214998:=()
def tw12353921848415358133:=()
def tw812407393286463856:=()
def tw13250339938231417216:=()
def tw10727707888111105007:=()
def tw4336315152447798087:=()
def tw17883361957074428654:=()
def tw7484155739266415628:=()
def tw2366498215623927848:=()
def tw1928429744012490993:=()
def tw1106425871795563130:=()
def tw7780807112472026856:=()
def tw13760128941103494547:=()
def tw561313449549569970:=()
def tw196392131566237060:=()
def tw7814673384600448503:=()
def tw6169202290904429960:=()
def tw198381667598367154:=()
def tw16099786304869946757:=()
def tw7312199052946169566:=()
def tw15148298767774690911:=()
def tw14176753495649100736:=()
def tw11884378998191590395:=()
def tw17384759761635523756:=()
def tw214583624857055168:=()
def tw7963706879470272451:=()
def tw1504091950849454908:=()
def tw12549458421836374428:=()
def tw14994421116635547055:=()
def tw14889298930204470757:=()
def tw12279800818708710402:=()
def tw13997568729375234631:=()
def tw12329374059808956640:=()
def tw14948250241949712665:=()
def tw13856977507280395008:=()
def tw2704913488745771183:=()
def tw18092140650727677870:=()
def tw15086789900710625727:=()
def tw17763540700937628312:=()
def tw12688233181927227056:=()
def tw2753458610727932266:=()
def tw14725924131455193509:=()
def tw9604694528846493070:=()
def tw11840483706759157133:=()
def tw2569273983539251395:=()
def tw90817258392360545:=()
def tw3155780680220742317:=()
def tw6559956198977187841:=()
def tw16290216260167861238:=()
def tw11432594464353108966:=()
def tw6817196619299948174:=()
def tw16754397660153127059:=()
def tw13193584289797122236:=()
def tw9274787546074733050:=()
def tw855375728477509814:=()
def tw10870329490752174423:=()
def tw15655282091782428231:=()
def tw2537384896207899887:=()
def tw8062191599697920084:=()
def tw17316136053787336900:=()
def tw14413516158339107200:=()
def tw8279637148894914563:=()
def tw9550378264874603758:=()
def tw6592654969028948643:=()
def tw18252859918034604032:=()
def tw3767871889203371822:=()
def tw7062738290579856425:=()
def tw17402458281973984998:=()
def tw4456233143207477646:=()
def tw8608197708353875455:=()
def tw42928285252188218:=()
def tw8110346349265567710:=()
def tw17688587548760881507:=()
def tw2556618959257172530:=()
def tw4496763495980110842:=()
def tw11005813065148339863:=()
def tw12711858747810563488:=()
def tw4058455205786838038:=()
def tw12073879463570501644:=()
def tw7144169096987660645:=()
def tw6304504386930088082:=()
def tw3366658354091715700:=()
def tw16979061472873068924:=()
def tw10396268185798130852:=()
def tw11352626407540083248:=()
def tw10097929625616055670:=()
def tw16823813468356290827:=()
def tw10475745090982930767:=()
def tw10075420800565836372:=()
def tw17918763366375440435:=()
def tw6424025296829891103:=()
def tw10598448542714133702:=()
def tw10633652720003874588:=()
def tw5649887157835885757:=()
def tw7815361970280015845:=()
def tw3657391745150560784:=()
def tw13832799242165707453:=()
def tw12804853156590982473:=()
def tw16036634396149101105:=()
def tw4811699631871091447:=()
def tw9389444336994644800:=()
def tw12694295133339639155:=()
def tw14118862236005946295:=()
def tw14706974062083282560:=()
def tw2717482399815580398:=()
def tw16851641307509335952:=()
def tw10432513793170611590:=()
def tw17567542893227798138:=()
def tw4761673627324025876:=()
def tw15371069811877168000:=()
def tw4479488968001014213:=()
def tw8317081242566027106:=()
def tw15224600871245118546:=()
def tw14688805564253299127:=()
def tw15085200520503572030:=()
def tw7078566629521131984:=()
def tw4371550181672151565:=()
def tw4065914577598833747:=()
def tw12011433481466415598:=()
def tw1121578555234719978:=()
def tw9277396438038715870:=()
def tw941257003654492446:=()
def tw11624834637765221422:=()
def tw7558486671525685785:=()
def tw5908913760385802991:=()
def tw1870529034153996346:=()
def tw6697513145069988863:=()
def tw18384055832068115711:=()
def tw2263035077803409915:=()
def tw1368081267216571432:=()
def tw7101610560028528073:=()
def tw3699908226209507209:=()
def tw9534542014592649972:=()
def tw5082095066660481404:=()
def tw8448554691234525440:=()
def tw3169725275458258284:=()
def tw13202850538827458702:=()
def tw12790541516789948851:=()
def tw7139128638617358065:=()
def tw15225863988346767046:=()
def tw16095983382674417354:=()
def tw7376285696839119972:=()
def tw12024314835730754301:=()
def tw17392603023590002906:=()
def tw9001931011000414567:=()
def tw8203496004033999921:=()
def tw4382397444623324952:=()
def tw2975121194999264036:=()
def tw6528066382487990499:=()
def tw3365458274041119069:=()
def tw14560405519081565714:=()
def tw11738658327290503247:=()
def tw17125727105250536698:=()
def tw7155952332168743450:=()
def tw11553796679583260181:=()
def tw9361315136342992591:=()
def tw9719578728287041875:=()
def tw10159072061410766646:=()
def tw8218347426212543567:=()
def tw7180138961292559924:=()
def tw11986007248158130885:=()
def tw5137960695756064732:=()
def tw5189607203679470967:=()
def tw12801233458881652742:=()
def tw4246975040209143775:=()
def tw16362494177276507100:=()
def tw8862223405914083560:=()
def tw9782682924477553165:=()
def tw18094183221469755891:=()
def tw697970906802036922:=()
def tw11250001374426183575:=()
def tw1062979216006578914:=()
def tw440211915254032876:=()
def tw8736824508648492243:=()
def tw9767328263354368557:=()
def tw10822117352682322352:=()
def tw11361835977038913179:=()
def tw868149814082640799:=()
def tw12395954412511497978:=()
def tw1330366230309925463:=()
def tw5742589060318868512:=()
def tw6831390953842765854:=()
def tw10598964156206936824:=()
def tw3230457186064747835:=()
def tw9591023871141979558:=()
def tw18180858707282066681:=()
def tw16807376117663381824:=()
def tw7110655385119558067:=()
def tw9474499454192579360:=()
def tw17534027090748851666:=()
def tw10516840591972212833:=()
def tw16091921232979170197:=()
def tw11428102926875882344:=()
def tw10903184941084216653:=()
def tw13304176173357105191:=()
def tw5557059139485482830:=()
def tw865266900756485515:=()
def tw16514400951543196454:=()
def tw8367653531312117640:=()
def tw15371041666834991203:=()
end PySem.W.Fast
set_option maxRecDepth 100000 in
set_option maxHeartbeats 0 in
theorem PySem.Challenge.cw_roomtouch_k02_no_webs_holds : PySem.Challenge.rw_roomtouch_k02_no_webs.Holds := by
  w_on; o_law; k_head; (case hw => w_witness2)
  k_fill
  refine L2.walk (l := PySem.Challenge.rw_roomtouch_k02_no_webs) rfl rfl (fun w h Y => W.kIn_of Y) ?F
  case F =>
    intro w mg fa h b G a
    refine' L2.all_mk b G a ?_ ?_ ?_ ?_ ?_ ?_ ?_ ?_ ?_ ?_ ?_ ?_ ?_ ?_ ?_ ?_ ?_ ?_ ?_ ?_ ?_ ?_ ?_ ?_ ?_ ?_ ?_ ?_ ?_ ?_ ?_ ?_ ?_ ?_ ?_ ?_ ?_ ?_ ?_ ?_ ?_ ?_ ?_ ?_ ?_ ?_ ?_ ?_ ?_ ?_ ?_ ?_ ?_ ?_ ?_ ?_ ?_ ?_ ?_ ?_ ?_ ?_ ?_ ?_ ?_ ?_ ?_ ?_ ?_ ?_ ?_ ?_ ?_ ?_ ?_ ?_ ?_ ?_ ?_ ?_
    all_goals try first | k_is | kit_is | k_exc | kts_exm | walk_at "df" | walk_at "di"
