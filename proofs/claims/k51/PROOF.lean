import PyProof.Rows.All
import Wide.All
import OpenK.AllK
import Wide.FinOn
import Lean
import PyProof.EqAt
import PyProof.EqKinds
import PyProof.TupleCall
import KE.KIntText
import PyProof.DictWalks
import PyProof.EnumStmt
import PyProof.Rows.EnumRows
import PyProof.Rows.SetFrom
import PyProof.Rows.ZipGen
import PyProof.TupleOfSeq
import PyProof.ZipIter
import PySem.Challenge.RW_roomtouch_k51_shown
set_option Elab.async false
set_option linter.all false
set_option compiler.extract_closed false
set_option maxRecDepth 100000
set_option maxHeartbeats 4000000
open Option renaming bind_some->a5,map_eq_some_iff->g0,map_some->px,isSome_iff_exists->Ut,getD_some->Ux,isSome_map->Vo,getD_none->Xh
open List renaming length_map->a8,mem_map->a9,getElem?_eq_some_iff->bc,getElem?_eq_getElem->cm,getElem?_map->cn,mem_cons->cR,mem_append->ee,mem_cons_of_mem->ew,mem_cons_self->eH,length_append->eJ,mem_of_getElem?->eK,size_toArray->e7,length_cons->fk,not_mem_nil->fm,mem_filter->ft,map_append->f',length_take->gg,map_cons->gi,mergeSort_perm->gp,map_map->hA,pairwise_map->hF,getElem?_append_left->hH,getElem?_append_right->hO,countP_cons->hY,nodup_append->ia,nodup_cons->ib,getElem?_set_ne->iN,mem_singleton->iR,getElem?_set_self->iW,length_drop->j1,any_eq_true->j3,all_eq_true->j4,length_pos_iff->ka,perm_ext_iff_of_nodup->kH,countP_append->k5,findIdx?_eq_some_iff_getElem->k9,pairwise_iff_getElem->lb,countP_map->ll,range->lp,mem_append_right->lr,filter_sublist->ma,countP_eq_zero->mo,append_assoc->mu,countP_eq_length_filter->m4,getElem_of_mem->nk,getD_eq_getElem?_getD->n7,countP_congr->pv,take_append_drop->qt,take_length->q0,map_mergeSort->ri,sum_cons->rp,map_id'->s9,lookup_cons->um,length_set->vj,length_nil->wm,append_nil->xr,nodup_nil->za,getElem_inj->zb,map_take->Hz,map_drop->H9,any_cons->I9,not_lt->Ti,getElem_mem->Tq,getElem?_zip_eq_some->Ts,map_congr_left->Tt,find?_cons->Tv,pairwise_cons->Tw,pairwise_mergeSort->Tz,toArray->TH,take_of_length_le->TJ,map_nil->TK,length_range->TL,length_singleton->TV,getElem_map->TZ,filter_cons->T1,mem_range->Uh,mem_filterMap->Ui,getElem?_take->Uj,exists_cons_of_ne_nil->Uk,mem_of_find?_eq_some->Uu,findIdx?_eq_none_iff->Uv,all_cons->UA,pairwise_singleton->UH,le_antisymm->UI,getElem?_replicate->UJ,of_mem_zip->UT,length_zip->UU,forIn_cons->UW,foldl_cons->UX,perm_append_comm->U1,mem_iff_getElem?->U2,length_replicate->U3,length_filter_le->U4,countP_le_length->U5,replicate->U',pairwise_append->Va,lt_irrefl->Vb,filterMap_cons->Vk,zip_cons_cons->Vp,getElem?_drop->Vq,find?_eq_none->Vr,sum_nil->VA,flatMap_cons->VB,filter_congr->VC,map_snd_zip->VQ,sum_append->VU,find?_some->VV,perm_append_singleton->V',length_eraseIdx_of_lt->Wa,exists_mem_of_ne_nil->Wf,drop_eq_getElem_cons->Wg,take_nil->Wj,lt_trans->Wk,getElem?_take_of_lt->Wl,getElem?_cons_succ->Wr,range_succ_eq_map->Wt,length_pos_of_mem->Wu,drop_of_length_le->Wv,any_map->Ww,countP_singleton->WL,cons_lt_cons_iff->WM,mem_of_mem_take->WT,mem_append_left->WU,countP->WV,map_eq_nil_iff->W9,getElem?_range->W',flatMap_append->Xa,filter_eq_self->Xb,mem_mergeSort->Xi,findIdx?_cons->Xj,count_pos_iff->Xk,take_sublist->XF,foldl_append->XG,range'_succ->XM,mem_flatMap->XN,flatMap_def->XO,ext_getElem->XP,drop_length->XQ,range_succ->XZ,filter_map->X0,take_zero->X6,take_succ->X7,drop_nil->Ym,all_map->YE
open PySem renaming sizeLine->bg,wpAny_bind->bt,Value->b8,Shared->cA,Addr->cW,wpAny_pure->eR,Str->eT,Expr->gs,wpAny->hE,FuncData->hI,Program->hJ,model->hR,strLen_append->ir,World->kq,compareOp->l4,Heap->m3,wpAny_holding->nL,assignEach->nS,foldedSetIterable->n5,starEach->ph,Around->pl,Pos->qe,wpAny_call_entry->ql,sizeLine_eq->qo,swapsWith->r0,behindInMarks->r3,wpAny_newObj_type->sH,Obj->tm,wpAny_mono->uz,cLine->vi,wpAny_truthy_bool->y0,sysModules->zc,Scope->z4,wpAny_typeNameOfWhole_keyiter->KX,bootBuiltins->P2,wpAny_passesOwn->Sq,binaryOp->Tg,wpAny_pyIter_list->To,mem_of_lookup->Tr,wpAny_typeNameOf_keyiter->TC,attributeBase->TF,wpAny_callSpecial?_slot->TQ,backTo->T3,Paired->T4,Builtin->T6,assign->T8,DictEntry->T9,holding->Ub,sliceBounds->Uc,mainGlobals->Ud,Stmt->Ue,codeAny_builtin->Ul,tupleKind_room_in1->UD,wpAny_dictEntries->UN,wpAny_eqBool_str->U6,boot_len->U7,pyNext->Vc,codeAny_mono->Vd,codeAny->Ve,call_meets->Vf,shortFactorBits->Vh,letOwnedTupleGo->Vi,NameKind->Vs,lastMarks->Vx,getItem->Vy,PassesOwn->Vz,wpAny_standAt->VI,wpAny_newList->VJ,swapsWithSole->VL,swappedStores->VM,wpAny_Call_Name_kw->VR,valueAt->VY,relabel->VZ,callerA->V0,tupleKind->Wc,IsPart->Wd,subscripted->Wh,wpAny_execs_nil->Wm,wpAny_dictEpoch->Wn,Keyword->Ws,typeLookup->Wx,atKey->Wy,GenState->WC,Env->WK,wpAny_comprehension_free->WY,plainId_quiet->WZ,bindL->Xc,bindC->Xd,CmpOp->Xg,wpAny_typeOf->Xm,standAt->Xn,seqIndex_neg->Xo,rawInt->Xp,merged->Xq,isTrue->Xr,concat_meets->Xs,wpAny_notOrdered_dict->XH,wpAny_isOneOf_keyiter->XI,wpAny_pyIter_keyiter->XR,wpAny_field->XS,seqIndex_of->XT,keywordEach->XU,wpAny_Name->X9,typeIs_int->X',pyIter->Ya,getattributeRaised->Yb,checkCount->Yc,builtinsNs->Yd,Result->Yh,KeyKind->Yi,wpAny_assign_Name->Yr,slot_list_getitem->Ys,setItem->Yt,argBest->Yu,BindsTo->YA,wpAny_pyIter_zip->YF,wpAny_eqBool_int->YG,scanBound->YH,rule->YI,noFill_tuple_add->YJ,cellsFrom->YK,wpAny_setField->Y6,wpAny_fieldsOf->Y7,truthy->Y8,firstArgMember->Y9,backToKw->Y',Sem->Zb,wpAny_attempt->Zl,seq_tuple_add->Zm,evalPart_none->Zn,call_list_seq->Zo,Tok->Zp
open Bool renaming and_eq_true->dV,and_eq_true_iff->hG,false_eq_true->mA,not_eq_true'->nq,eq_iff_iff->sb,and_true->UC,and_comm->Vm,or_eq_true->VX,false_and->Wb,false_ne_true->Xl,or_false->Yn,false_or->Yo,and_self->Yp
open PySem.Str renaming ofString->ec,empty->n4,cps_append->zd,join->TM
open PySem.Heap renaming get?_push_of_some->el,lt_size->fj,get?_push_size->hB,get?_update_other->sW,size_push->Ug,size_update->UG,SameBut->UO,get?_update_self->Wz,get?_push_ne->Xw
open Nat renaming le_refl->eS,ne_of_lt->gW,lt_of_lt_of_le->hQ,mod_eq_of_lt->kx,le_trans->pA,zero_le->qh,lt_irrefl->qp,zero_add->t9,mod_self->yv,lt_trans->TN,lt_of_le_of_lt->Uq,lt_succ_of_lt->Uy,le_succ->Uz,lt_succ_self->UK,le_add_right->UL,ne_of_gt->US,mod_lt->Vw,succ_mul->VF,le_of_lt->VG,add_mod->VT,min_eq_left->V6,pow_lt_pow_right->W5,mul_one->W6,mul_le_mul_right->W7,log2_lt->W8,not_lt_zero->X5,reduceAdd->YD,sub_self->YQ,le_of_eq->YR,add_comm->YS,mod_mod->Y5,sub_le->Zj,not_lt->Zk
open PySem.W renaming Frag->gj,kia_one->UR,kas_rev->V1,keepIn->Wo,KatTups->WO,fnOf->W0,methodObj->Xt,OpenLaw->X3,cellsFrom_some->Ye,codeIn->YL,kat_sorted->Za
open List.Pairwise renaming sublist->j2,imp_of_mem->Rr,nil->UY
open PySem.Txt renaming join->j5
open Array renaming getElem?_eq_getElem->j',getElem?_toList->k7,getD_eq_getD_getElem?->lq,length_toList->m5,toList_append->sj,all_eq_true'->z7,mem_toList_iff->Th,getElem?_eq_none->UM,toArray_toList->U9,perm_iff_toList_perm->V7,toList->Yq
open Sum renaming inr->nE,inl->VD
open PySem.Value renaming none->n6,bool->r4,ref->ti,str->Tn,int->UE,type->W1,isStrOf->X4,isInt->Yv
open PySem.PyData renaming strOk->pe,eqv->ua,canLay0->ub,canLayAll0->Um,eqvAll->Us,depthAll->VN
open PySem.Builtin.Int renaming intBits->pB,intTooBig->Zd
open PySem.F renaming slot_dict_keyiterator_next->sq,called_set->tz,plainAttrs_list->Tu,args_tuple_add_2->V3,args_dict_keyiterator_next_1->V4,entry_tuple_add->V8,entry_dict_keyiterator_next->V9,slot_tuple_add->We,slot_tuple_index->WG,slot_list_insert->WH,slot_list_getattribute->WI,slot_list_append->WJ,slot_list_count->WR,slot_dict_iter->Yj,slot_int_rmul->Yy,slot_dict_len->Yz
open Int renaming toNat_of_nonneg->sr,neg_lt_neg->z3,emod_lt_of_pos->TB,emod_nonneg->T',neg_lt_neg_iff->Ur,le_refl->UB,sub_zero->UZ,not_lt->U0,toNat_natCast->VH,neg_inj->VW,lt_trans->WN,natCast_mul->X8,ne_of_lt->YT
open PySem.NameKind renaming free->uy,cell->Xv
open PyProof.Rows renaming slot_tuple_getitem->z5,seqObj->z8,callWith_type1->TR,IsTup->T7,kindOf->Uo,StrsAre->UQ,AllBare->Vg,entry_list_sort->Vj,slot_list_sort->Vt,envOfC->Vu,args_list_sort->Vv,subscriptTail->W3,strKind_oneLt->W4,subscriptTail_builtinR->Xx,plain_sorted->Xy,keyKind_strs->Xz,entry_sorted->XA,args_sorted1->XB,IntsAre->XD,kind_sorted->XX,arrOf->XY,size_push'->Yk,Subscript_->Yl,list_sort_treeK->Y0,joinParts_consE->Y1,get?_update_seq->Y2,digit_range->Y3,callWith_builtin1->Y4,sortedHeap_old->Zf,slicePart_none->Zg,joinParts_cons->Zh,bubble->Zi,sortedHeap_at->Zs,listUpdate_at->Zt
open False renaming elim->z6
open PySem.Builtin.Slice renaming slicePlaces->z9,sliceAdjust->T5,sliceApplied->Vl,slicePartIndex->YN,sliceFields->YO
open PyProof.Rows.F renaming plain_set_update_loop->C',entry_set_update_loop->Uw
open PySem.Builtin.Tuple renaming tupleExact->P',tupleItemsOf->YM
open PySem.Calls renaming call_function_entry->Tp,Name_function_global->V5,Constant_str->W2
open PySem.Obj renaming mapSeq->Tx,data_mapFields->Xu,mapFields->Yw
open Prod.mk renaming injEq->TU
open True renaming intro->TX
open PySem.Around renaming under_plainId->TY
open Classical renaming byContradiction->Ua
open PySem.Builtin.Dict_items renaming ownsTuple->UP
open Option.some renaming injEq->U8
open PySem.Builtin.List renaming listFitsIndex->Vn,listTooLong->YV
open PySem.Builtin.Dict renaming updateFrom->VE,pairItems->VP,showsAll->VS,selfAndRest->YW,pendingCount->YX,dictSlotNone->YY,addKeywords->YZ
open PySem.Builtin.Str renaming occurrences->VO
open PySem.Heap.SameBut renaming update->V2
open PySem.StrLaws renaming glued_eq_join->Wi
open PySem.SeqAt renaming shaped->Wp,canLay_of_shaped->Wq,readOf->Yg
open PySem.PassesOwn renaming never->WQ
open List.cons renaming injEq->WW
open ForInStep renaming yield->WX
open PySem.W.Looks renaming of_pure->Xe
open PySem.W.KasFin renaming intro->Xf
open PyProof.Rows.IsTup renaming new->XC
open Or renaming inr->XJ,inl->YC
open PySem.Builtin.Frozenset renaming updateFrom->XW
open Std.Legacy.Range renaming size->X1,forIn_eq_forIn_range'->X2
open PySem.Spec renaming same->Yf
open PySem.Heap.IsSliceOf renaming new->Yx
open PyProof.Rows.SortSt renaming mk'->YB
open PySem.Builtin.Range renaming rangeSize->YP
open PySem.W.WData renaming int->YU
open PySem.Heap.DictOf renaming new->Zc
open PySem.SeqAt.EqAt renaming str_int->Zq,int_str->Zr
open Prod renaming snd->Zu,ext->Zv
open List.Nodup renaming length_le_of_subset->Zw
open And renaming intro->Zx
section
namespace L2
open PySem PySem.Spec PyProof.Rows
noncomputable abbrev Key:=Sum Int eT
noncomputable def i8:Key->b8->Bool
 | .inl k,v=>Yv k v
 | .inr x,v=>X4 x v
noncomputable def K9 (w:kq):Key->Int
 | .inl k=>hashInt k
 | .inr x=>hashStr w x
theorem iu:∀{k:Key}{v:b8},i8 k v=true->(∃i t,k=VD i/\v=UE i t)\/(∃x t,k=nE x/\v=Tn x t)
 | .inl i,v,h=>by
  obtain⟨t,e⟩:=Value.isInt_shape (k:=i) (v:=v) h;exact .inl ⟨i,t,rfl,e⟩
 | .inr x,v,h=>by
  obtain⟨t,e⟩:=Value.isStrOf_shape (x:=x) (v:=v) h;exact .inr ⟨x,t,rfl,e⟩
def Ef (i) (t):i8 (.inl i) (.int i t)=true:=by simp[i8,Yv]
def xQ (x) (t):i8 (.inr x) (.str x t)=true:=by simp[i8,X4]
def G1 (a b):decide ((VD a:Key)=VD b)=(a == b):=by
 by_cases e:a=b
 ·subst e;simp
 ·have h:¬(VD a:Key)=VD b:=λq=>e (Sum.inl.inj q)
  rw[decide_eq_false h];exact (beq_eq_false_iff_ne.mpr e).symm
def Ie (a b):decide ((nE a:Key)=nE b)=decide (a=b):=by
 by_cases e:a=b
 ·subst e;simp
 ·have h:¬(nE a:Key)=nE b:=λq=>e (Sum.inr.inj q)
  rw[decide_eq_false h,decide_eq_false e]
def J1 (a) (b):decide ((VD a:Key)=nE b)=false:=decide_eq_false (λq=>nomatch q)
def EL (a) (b):decide ((nE a:Key)=VD b)=false:=decide_eq_false (λq=>nomatch q)
noncomputable def cG (prog) (w):Yi prog w Key where
 is:=i8
 hash:=K9 w
 inj:=λv a b g f=>by
  rcases iu g with⟨i,t,rfl,rfl⟩ | ⟨x,t,rfl,rfl⟩
  ·rcases iu f with⟨j,u,rfl,e⟩ | ⟨y,u,rfl,e⟩
   ·injection e with c _;rw[c]
   ·exact nomatch e
  ·rcases iu f with⟨j,u,rfl,e⟩ | ⟨y,u,rfl,e⟩
   ·exact nomatch e
   ·injection e with c _;rw[c]
 byValue:=λk v h=>by
  rcases iu h with⟨i,t,rfl,rfl⟩ | ⟨x,t,rfl,rfl⟩ <;> rfl
 pyHash:=λd h=>by
  rcases iu d with⟨i,t,rfl,rfl⟩ | ⟨x,t,rfl,rfl⟩
  ·exact wpAny_pyHash_int h
  ·exact wpAny_pyHash_str h
 eqBool:=λl d h=>by
  rcases iu l with⟨i,t,rfl,rfl⟩ | ⟨x,t,rfl,rfl⟩
  ·rcases iu d with⟨j,u,rfl,rfl⟩ | ⟨y,u,rfl,rfl⟩
   ·rw[G1] at h;exact YG h
   ·rw[J1] at h;exact Zr i t y u _ _ _ _ h
  ·rcases iu d with⟨j,u,rfl,rfl⟩ | ⟨y,u,rfl,rfl⟩
   ·rw[EL] at h;exact Zq x t j u _ _ _ _ h
   ·rw[Ie] at h;exact U6 h
 «strs»:=λk x t v h=>by
  rcases iu h with⟨i,u,rfl,e⟩ | ⟨y,u,rfl,e⟩
  ·exact nomatch e
  ·injection e with c _
   subst c;cases v <;> rfl
def Jt (prog) (w) (i) (t):(cG prog w).is (.inl i) (.int i t)=true:=Ef i t
def Hw (prog) (w) (x) (t):(cG prog w).is (.inr x) (.str x t)=true:=xQ x t
inductive V where
 | aK | bl (b:Bool) | int (i:Int) | str (x:eT) | oU (b:Array UInt8) | wd (b:UInt64) | ref (a:cW) | ty (n:String)
 deriving DecidableEq
noncomputable def RelV:V->b8->Prop
 | .aK,u=>u=n6
 | .bl b,u=>u=r4 b
 | .int i,u=>∃t,u=UE i t
 | .str x,u=>∃t,u=Tn x t
 | .oU b,u=>∃t,u=Value.bytes b t
 | .wd b,u=>∃t,u=Value.float b t
 | .ref a,u=>u=ti a
 | .ty n,u=>u=W1 n
noncomputable abbrev aC:List V->List b8->Prop:=T4 RelV
theorem aC.length (r:aC xs a):xs.length=a.length:=Paired.length r
theorem aC.get:∀{xs:List V}{a:List b8}{i:Nat}{x:V},aC xs a->xs[i]? = some x->∃u,a[i]? = some u/\RelV x u
 | _,_,_,_,.nil,e=>by simp at e
 | _,_,0,_,.cons r _,e=>by simp at e;subst e;exact⟨_,rfl,r⟩
 | _,_,i + 1,x,.cons _ t,e=>by
  obtain⟨u,b,c⟩:=aC.get (i:=i) (x:=x) t (by simpa using e)
  exact⟨u,by simpa using b,c⟩
theorem aC.set (r:RelV x u):∀{xs:List V}{a:List b8}(i:Nat),aC xs a->aC (xs.set i x) (a.set i u)
 | _,_,_,.nil=>.nil
 | _,_,0,.cons _ t=>.cons r t
 | _,_,i + 1,.cons q t=>.cons q (aC.set r i t)
theorem aC.append:∀{xs ys:List V}{a b:List b8},aC xs a->aC ys b->aC (xs++ys) (a++b)
 | _,_,_,_,.nil,s=>s
 | _,_,_,_,.cons r t,s=>.cons r (aC.append t s)
theorem aC.take:∀{xs:List V}{a:List b8}(n:Nat),aC xs a->aC (xs.take n) (a.take n)
 | _,_,0,_=>.nil
 | _,_,_ + 1,.nil=>.nil
 | _,_,n + 1,.cons r t=>.cons r (aC.take n t)
theorem aC.drop:∀{xs:List V}{a:List b8}(n:Nat),aC xs a->aC (xs.drop n) (a.drop n)
 | _,_,0,r=>r
 | _,_,_ + 1,.nil=>.nil
 | _,_,n + 1,.cons _ t=>aC.drop n t
noncomputable def iM:Option V->Option b8->Prop
 | some v,some u=>RelV v u
 | none,none=>True
 | _,_=>False
noncomputable def KV:List (a×V)->List (a×b8)->Prop:=T4 λ(p:a×V) (q:a×b8)=>p.1=q.1/\RelV p.2 q.2
noncomputable def kV:Key->V
 | .inl i=>.int i
 | .inr x=>.str x
inductive HO where
 /-- a list -/
 | lst (xs:List V)
 /-- a tuple (never changes) -/
 | tup (xs:List V)
 /-- a dict whose keys are ints and texts;one whose keys are tuples of ints and texts (the empty one is both) -/
 | dK (kvs:List (Key×V)) | dT (kvs:List (List Key×V))
 /-- a set of ints: its members,its size -/
 | set (S:Int->Bool) (n:Nat)
 /-- an instance of the class at C,its dict at dx,its attributes -/
 | ins (C dx:cW) (fs:List (eT×V))
 /-- the dict of the instance at x -/
 | own (x:cW)
 /-- the dict of an exception -/
 | xd (fs:List (eT×V))
 /-- a bound method,f of x -/
 | met (f x:cW)
 /-- a range object lo,lo + 1,.. below hi -/
 | ou (lo hi:Int)
 /-- a thing that is known to the object (the script;a dict while a loop walks it): read,never written while it is so -/
 | ba (o:tm) (u:HO)
 /-- a code object's table -/
 | jJ (ps:Array b8)
 /-- any other thing,by what is true of its one object (a def of one's own: SetO a S n:=HO.ext λh=>..) -/
 | ext (φ:m3->Prop)
noncomputable abbrev Hp:=cW->Option HO
noncomputable def upd (H:Hp) (a:cW) (o:HO):Hp:=λb=>if b=a then some o else H b
def bu:upd H a o a=some o:=by unfold upd;rw[if_pos rfl]
def aA (h:b≠a):upd H a o b=H b:=by unfold upd;rw[if_neg h]
def GV:upd (upd H a o) a u=upd H a u:=by
 funext b;unfold upd;split <;> rfl
def Oi {H:Hp}{a b:cW}{o u:HO}(h:H a=some o) (h':H b=some u) (d:o≠u):a≠b:=by
 intro e;subst e;rw[h] at h';exact d (Option.some.inj h')
def di {H:Hp}{a b:cW}{o:HO}(h:H a=some o) (h':H b=none):a≠b:=by
 intro e;subst e;rw[h] at h';cases h'
section
variable (P:hJ) (w:kq)
noncomputable def cB (H:Hp) (h:m3) (a:cW):HO->Prop
 | .lst xs=>xs.length<=bg/\∃(its:List b8) (n:Nat),aC xs its/\h.get? a=some { cls:=.type "list",data:=.seq its.toArray n }
 | .tup xs=>xs.length<=bg/\∃its:List b8,aC xs its/\T7 h a its.toArray
 | .dK kvs=>kvs.length<=bg/\(a == zc)=false/\∃vs,KV kvs vs/\h.DictOf (cG P w) a vs
 | .dT kvs=>kvs.length<=bg/\(a == zc)=false/\∃xs:List (List Key×cW×b8),
   T4 (λ(p:List Key×V) (q:List Key×cW×b8)=>p.1=q.1/\H q.2.1=some (.tup (p.1.map kV))/\RelV p.2 q.2.2) kvs xs /\
   ∃o e ep,h.get? a=some o/\o.ExactDict/\o.data=.dict e ep/\e.toList=xs.map (entryOfKey (Wc (cG P w)))/\(xs.map (·.1)).Nodup
 | .set S n=>h.SetOf (intKind P w) a S n
 | .ins C c fs=>H c=some (.own a)/\fs.length<=1000/\c≠a/\h.get? a=some (W.instObj C c) /\
   ∃b,h.Ns1 c b/\(∀f,iM (fs.lookup f) (b f))/\PySem.Within b (fs.map (·.1))
 | .own _=>∃o,h.get? a=some o
 | .xd fs=>∃b,h.Ns1 a b/\∀f,iM (fs.lookup f) (b f)
 | .ou lo j=>∃t u v,h.get? a=some { cls:=.type "range",data:=.fields #[.int lo t,.int j u,.int 1 v] }
 | .ba o u=>h.get? a=some o/\cB H h a u
 | .jJ k=>h.get? a=some { cls:=.none,data:=.fields k }
 | .met f x=>h.get? a=some (Xt (.ref f) (.ref x))
 | .ext d=>d h/\(∃o,h.get? a=some o)/\∀g i:m3,d g->(∀o,g.get? a=some o->i.get? a=some o)->d i
noncomputable def bS (H:Hp) (h:m3):Prop:=∀a o,H a=some o->cB P w H h a o
end
section
variable {P:hJ}{w:kq}{H H':Hp}{h h':m3}{a:cW}{o:HO}
theorem cB.lt (x:cB P w H h a o):a < h.objs.size:=by
 cases o with
 | lst xs=>obtain⟨_,_,_,_,e⟩:=x;exact fj e
 | tup xs=>obtain⟨_,_,_,p⟩:=x;exact p.lt
 | dK kvs=>obtain⟨_,_,_,_,o,_,_,e,_⟩:=x;exact fj e
 | dT kvs=>obtain⟨_,_,_,_,o,_,_,e,_⟩:=x;exact fj e
 | set S n=>obtain⟨o,_,_,_,e,_⟩:=x;exact fj e
 | ins C dx fs=>obtain⟨_,_,_,e,_⟩:=x;exact fj e
 | own y=>obtain⟨_,e⟩:=x;exact fj e
 | xd fs=>obtain⟨_,⟨_,_,_,e,_⟩,_⟩:=x;exact fj e
 | ou lo hi=>obtain⟨_,_,_,e⟩:=x;exact fj e
 | ba ob u=>obtain⟨e,_⟩:=x;exact fj e
 | jJ ps=>exact fj (show h.get? a=some _ from x)
 | met f y=>exact fj (show h.get? a=some _ from x)
 | ext φ=>obtain⟨_,⟨_,e⟩,_⟩:=x;exact fj e
theorem Paired.nC:∀{l₁:List c}{l₂:List d},T4 F l₁ l₂->(∀a b,F a b->G a b)->T4 G l₁ l₂
 | _,_,.nil,_=>.nil
 | _,_,.cons r t,f=>.cons (f _ _ r) (Paired.nC t f)
theorem cB.ij (x:cB P w H h a o) (k:∀b u,(b=a\/H b=some (.own a))->h.get? b=some u->h'.get? b=some u)
  (s:∀b,H b=some (.own a)->H' b=some (.own a)) (A:∀b xs,H b=some (.tup xs)->H' b=some (.tup xs)):cB P w H' h' a o:=by
 induction o with
 | lst xs=>obtain⟨z,its,n,r,e⟩:=x;exact⟨z,its,n,r,k _ _ (.inl rfl) e⟩
 | tup xs=>obtain⟨z,its,r,g,e,c⟩:=x;exact⟨z,its,r,g,k _ _ (.inl rfl) e,c⟩
 | dK kvs=>obtain⟨z,y,vs,r,g,i,ep,e,c⟩:=x;exact⟨z,y,vs,r,g,i,ep,k _ _ (.inl rfl) e,c⟩
 | dT kvs =>
  obtain⟨z,y,xs,r,g,i,ep,e,c⟩:=x;exact⟨z,y,xs,Paired.nC r λp q z=>⟨z.1,A _ _ z.2.1,z.2.2⟩,g,i,ep,k _ _ (.inl rfl) e,c⟩
 | set S n=>obtain⟨g,i,ep,t,e,c⟩:=x;exact⟨g,i,ep,t,k _ _ (.inl rfl) e,c⟩
 | ins C dx fs =>
  obtain⟨d,z,ne,e,j,⟨l,i,ep,B,c⟩,r⟩:=x;exact⟨s _ d,z,ne,k _ _ (.inl rfl) e,j,⟨l,i,ep,k _ _ (.inr d) B,c⟩,r⟩
 | own y=>obtain⟨g,e⟩:=x;exact⟨g,k _ _ (.inl rfl) e⟩
 | xd fs=>obtain⟨j,⟨l,i,ep,e,c⟩,r⟩:=x;exact⟨j,⟨l,i,ep,k _ _ (.inl rfl) e,c⟩,r⟩
 | ou lo hi=>obtain⟨t,u,v,e⟩:=x;exact⟨t,u,v,k _ _ (.inl rfl) e⟩
 | ba g u D=>obtain⟨e,q⟩:=x;exact⟨k _ _ (.inl rfl) e,D q⟩
 | jJ m =>
  have e:h.get? a=some { cls:=.none,data:=.fields m }:=x;show h'.get? a=some { cls:=.none,data:=.fields m };exact k a _ (.inl rfl) e
 | met f y =>
  have e:h.get? a=some (Xt (.ref f) (.ref y)):=x;show h'.get? a=some (Xt (.ref f) (.ref y));exact k a _ (.inl rfl) e
 | ext φ=>obtain⟨p,⟨o,e⟩,st⟩:=x;exact⟨st _ _ p λo q=>k _ _ (.inl rfl) q,⟨o,k _ _ (.inl rfl) e⟩,st⟩
theorem bS.lt (x:bS P w H h) (e:H a=some o):a < h.objs.size:=(x a o e).lt
theorem bS.fresh (x:bS P w H h) (e:h.objs.size<=a):H a=none:=by
 cases q:H a with
 | none=>rfl
 | some u=>exact absurd (hQ (x.lt q) e) (qp _)
def bS.kept (x:bS P w H h) (k:∀b u,h.get? b=some u->h'.get? b=some u):bS P w H h':=λa o e =>
 (x a o e).ij (λb u _ q=>k b u q) (λ_ q=>q) λ_ _ q=>q
def bS.laid (x:bS P w H h) (k:∀b u,h.get? b=some u->h'.get? b=some u) (i:h.objs.size<=a) (d:cB P w (upd H a o) h' a o):bS P w (upd H a o) h':=λb u e=>by
 have f:=x.fresh i
 by_cases g:b=a
 ·subst g;rw[bu] at e;cases e;exact d
 ·rw[aA g] at e;exact (x b u e).ij (λc v _ q=>k c v q) (λc q=>by rw[aA (di q f)];exact q) λc xs q=>by rw[aA (di q f)];exact q
end
noncomputable def Rd (H:Hp) (a:cW) (u:HO):Prop:=H a=some u\/∃o,H a=some (.ba o u)
def Rd.of (h:H a=some u):Rd H a u:=.inl h
def Rd.ok (r:Rd H a u)(x:bS P w H h):cB P w H h a u:=by
 rcases r with r | ⟨o,r⟩
 ·exact x a u r
 ·obtain⟨_,q⟩:=x a _ r;exact q
noncomputable def oR:Option HO->Prop
 | some (.lst _)=>True
 | some (.dK _)=>True
 | some (.dT _)=>True
 | some (.set _ _)=>True
 | some (.ins _ _ _)=>True
 | some (.ext _)=>True
 | _=>False
section
variable {P:hJ}{w:kq}{H:Hp}{h h':m3}{x e:cW}{o':HO}
def bS.write (ok:bS P w H h) (f:oR (H x)) (l:e=x\/H e=some (.own x)) (k:∀b u,b≠e->h.get? b=some u->h'.get? b=some u) (m:∃u,h'.get? e=some u)
  (n:cB P w (upd H x o') h' x o'):bS P w (upd H x o') h':=λb u q=>by
 have d:∀c y,H c=some (.own y)->c≠x:=λc y r z=>by subst z;rw[r] at f;exact f
 have j:∀c xs,H c=some (.tup xs)->c≠x:=λc xs r z=>by subst z;rw[r] at f;exact f
 by_cases g:b=x
 ·subst g;rw[bu] at q;cases q;exact n
 ·rw[aA g] at q
  by_cases a:b=e
  ·have o:H b=some (.own x):=by
    rcases l with z | z
    ·exact absurd (a.trans z) g
    ·rw[a];exact z
   rw[q] at o;cases o;obtain⟨v,p⟩:=m;exact⟨v,by rw[a];exact p⟩
  ·refine (ok b u q).ij (λc v i r=>k c v ?_ r) (λc r=>by rw[aA (d c b r)];exact r) λc xs r=>by rw[aA (j c xs r)];exact r
   rcases i with rfl | i
   ·exact a
   ·rintro rfl
    rcases l with z | z
    ·exact d c b i z
    ·rw[i] at z;cases z;exact g rfl
end
structure Un (fs ex:List cW) (H H':Hp) (h h':m3):Prop where
 keep:∀b o,h.get? b=some o->H b=none->b∉fs->b∉ex->h'.get? b=some o
 slot:∀b o,h.get? b=some o->H b=none->b∈fs->b∉ex->∃sl,h'.get? b=some { o with slots:=sl }
 free:∀b o,h.get? b=some o->H b=none->b∉ex->H' b=none
 there:∀b o,h.get? b=some o->b∉ex->∃o',h'.get? b=some o'
 iF:∀b xs,H b=some (.tup xs)->H' b=some (.tup xs)
 gZ:∀b o u,H b=some (.ba o u)->H' b=some (.ba o u)
 iH:∀b ps,H b=some (.jJ ps)->∃more,H' b=some (.jJ (ps++more))
section
variable {fs fs' ex ex':List cW}{H H1 H2:Hp}{h h1 h2 h':m3}{a x e:cW}{o:HO}
def Un.any (u:Un fs ex H H1 h h1)(q:h.get? b=some c)(n:H b=none)(hx:b∉ex):∃f,h1.get? b=some { c with slots:=f }:=by
 by_cases d:b∈fs
 ·exact u.slot b c q n d hx
 ·exact⟨c.slots,u.keep b c q n d hx⟩
def Un.kept (k:∀b u,h.get? b=some u->h'.get? b=some u):Un fs ex H H h h' :=
 ⟨λb c q _ _ _=>k b c q,λb c q _ _ _=>⟨c.slots,k b c q⟩,λ_ _ _ n _=>n,λb c q _=>⟨c,k b c q⟩,λ_ _ q=>q,λ_ _ _ q=>q,λ_ ps q=>⟨#[],by rw[q];simp⟩⟩
def Un.refl:Un fs ex H H h h:=Un.kept λ_ _ q=>q
def Un.laid (k:∀b u,h.get? b=some u->h'.get? b=some u) (d:h.objs.size<=a) (c:H a=none):Un fs ex H (upd H a o) h h' where
 keep:=λb u q _ _ _=>k b u q
 slot:=λb u q _ _ _=>⟨u.slots,k b u q⟩
 free:=λb u q n _=>by rw[aA (gW (hQ (fj q) d))];exact n
 there:=λb u q _=>⟨u,k b u q⟩
 iF:=λb xs q=>by rw[aA (di q c)];exact q
 gZ:=λb u xs q=>by rw[aA (di q c)];exact q
 iH:=λb ps q=>⟨#[],by rw[aA (di q c),q];simp⟩
def Un.write (c:oR (H x)) (j:e=x\/H e=some (.own x)) (k:∀b u,b≠e->h.get? b=some u->h'.get? b=some u) (g:∃u,h'.get? e=some u):Un fs ex H (upd H x o) h h':=by
 have hx:∀b,H b=none->b≠x:=λb n z=>by subst z;rw[n] at c;exact c
 have i:∀b,H b=none->b≠e:=λb n z=>by
  subst z
  rcases j with r | r
  ·exact hx b n r
  ·rw[n] at r;cases r
 have f:∀b u,H b=some u->¬oR (some u)->b≠x:=λb u q nm z=>by subst z;rw[q] at c;exact nm c
 refine⟨λb u q n _ _=>k b u (i b n) q,λb u q n _ _=>⟨u.slots,k b u (i b n) q⟩,λb u q n _=>by rw[aA (hx b n)];exact n,λb u q _=>?_,
  λb xs q=>by rw[aA (f b _ q λz=>z)];exact q,λb u xs q=>by rw[aA (f b _ q λz=>z)];exact q,λb ps q=>⟨#[],by rw[aA (f b _ q λz=>z),q];simp⟩⟩
 by_cases d:b=e
 ·subst d;exact g
 ·exact⟨u,k b u d q⟩
end
noncomputable def e9 (h:m3) (H:Hp):List Addr:=(lp h.objs.size).filter λa=>(H a).isSome
noncomputable def jq (h:m3) (H:Hp):Heap:=W.hideAll h (e9 h H)
def FY (h) (H):(jq h H).objs.size=h.objs.size:=W.hideAll_size _ _
def GQ (e:h.get? b=some o)(n:H b=none):(jq h H).get? b=some o :=
 W.hideAll_get _ e λa=>by
  have q:(H b).isSome=true:=(ft.mp a).2;rw[n] at q;simp at q
theorem JB (e:(jq h H).get? b=some o):h.get? b=some o/\H b=none:=by
 have a:h.get? b=some o:=W.of_hideAll (e9 h H) e;refine⟨a,?_⟩;cases q:H b with
 | none=>rfl
 | some x =>
  have c:b∈e9 h H:=ft.mpr ⟨Uh.mpr (fj a),by simp[q]⟩
  have z:(jq h H).get? b=none:=W.hideAll_none (e9 h H) c;rw[z] at e;cases e
noncomputable def kE (g h:m3) (L:cW):List (cW×tm):=(lp h.objs.size).filterMap λa=>if a=L\/(g.get? a).isSome=true then none else (h.get? a).map λo=>(a,o)
def rl (c:a≠L)(d:g.get? a=none)(b:h.get? a=some o):(a,o)∈kE g h L :=
 Ui.mpr ⟨a,Uh.mpr (fj b),by simp[c,d,b]⟩
def DQ (c:p∈kE g h L):p.1≠L/\g.get? p.1=none/\h.get? p.1=some p.2:=by
 obtain⟨b,_,e⟩:=Ui.mp c;split at e
 ·cases e
 ·rename_i a;cases q:h.get? b with
  | none=>rw[q] at e;simp at e
  | some u =>
   rw[q] at e;simp only[px,U8] at e;subst e;refine⟨λz=>a (.inl z),?_,q⟩
   show g.get? b=none;cases r:g.get? b with
   | none=>rfl
   | some v=>exact (a (.inr (by simp[r]))).elim
def uZ:News g L h (kE g h L):=λp d=>let ⟨a,b,c⟩:=DQ d;⟨c,a,b⟩
structure Mod (K:gj) (mg:eT->Option b8) (base:m3):Prop where
 v9:K.In base
 glob:base.Ns Ud mg
 blt:∃mb,base.Ns Yd mb/\∀x:eT,x≠"__name__"->mb x=P2 x
 nolimit:base.NoLimit
structure Cx where
 prog:hJ
 w:kq
 K:gj
 mg:eT->Option b8
 base:m3
 A:pl
 N:List eT
 cY:cA
 pL:Hp
 env:WK
 outer:List WK
 stack:List WK
 ex:List cW
 fn:eT->Bool
 calm:Bool
 pn:List (cW×tm)
 xe:b8->cA->Prop
noncomputable abbrev bJ (x:eT):Prop:=(x == ("__debug__":eT))=false
noncomputable abbrev cM (x:eT):Prop:=(x == ("__classdict__":eT))=false
noncomputable abbrev bK (X:Cx) (e:gs) (a:List gs):Prop:=ph (e::a) X.env=(false,eval e X.env)::ph a X.env
noncomputable abbrev mZ (X:Cx) (p:qe) (e:gs):Prop:=((T3 p (ph [e] X.env)).all (λx=>!x.1) && (Y' p (XU [] X.env)).all (λx=>x.1.isSome) && decide ([e].length + ([]:List Ws).length + (if ([]:List Ws).isEmpty then 0 else 1) < 30))=true
noncomputable def gU (l:List WK):List Addr:=l.filterMap (·.frame)
noncomputable abbrev Cx.fs (X:Cx):List Addr:=gU X.outer
noncomputable def cc (a:z4) (x:eT):Prop:=a.names.lookup x=some .local\/a.names.lookup x=some .cell\/a.names.lookup x=some .free
noncomputable def Loc (a:z4) (x:eT):Prop:=a.names.lookup x=some .local\/a.names.lookup x=some .cell
noncomputable def Look (env:WK) (h:m3) (m:eT->Option b8) (x:eT) (u:b8):Prop :=
 (env.kindOf x=some .local/\m x=some u)\/((env.kindOf x=some .cell\/env.kindOf x=some .free)/\∃c,env.cells.lookup x=some c/\h.IsCell c (some u))
structure Cx.Ok (X:Cx):Prop where
 mod:Mod X.K X.mg X.base
 kind:X.env.scope.kind=.function
 glob:X.env.globals=Ud
 blt:X.env.builtins=Yd
 above:X.cY.heap.objs.size<=X.env.locals
 inj:∀x y c,X.env.cells.lookup x=some c->X.env.cells.lookup y=some c->x=y
 has:∀x,(X.env.kindOf x=some .cell\/X.env.kindOf x=some .free)->∃c,X.env.cells.lookup x=some c
 nY:∀x c,X.fn x=true->X.env.cells.lookup x=some c->X.cY.heap.objs.size<=c
 hd:X.calm=true->X.A.handled=none
 frames:X.A.frames=some X.stack
 rP:X.stack=X.outer\/(X.stack=X.env::X.outer/\X.env.frame=some X.env.locals)
 zN:∀b∈X.ex,b≠X.env.locals/\∀x c,X.env.cells.lookup x=some c->c≠b
 bs:∀b o,X.base.get? b=some o->X.cY.heap.get? b=some o/\X.pL b=none
 jQ:X.base.objs.size<=X.cY.heap.objs.size
 oE:∀b o,X.base.get? b=some o->b∉X.ex
 qR:∀b∈X.ex,b∉X.fs
 iB:X.cY.heap.FunFrames X.base X.outer
 mC:∀b∈X.fs,X.pL b=none
structure Inv (X:Cx) (pins:List (cW×tm)) (σ:List (Option V)) (H:Hp) (s:cA):Prop where
 ok:X.Ok
 os:s.os=X.cY.os
 bare:Vg s.gens
 base:Un X.fs X.ex X.pL H X.cY.heap s.heap
 loc:∃m,s.heap.Ns X.env.locals m/\∀(i:Nat) (x:eT) (v:V),X.N[i]? = some x->σ[i]? = some (some v)->cc X.env.scope x->∃u,RelV v u/\Look X.env s.heap m x u
 cell:∀x c,X.env.cells.lookup x=some c->∃v,s.heap.IsCell c v
 free:H X.env.locals=none
 gz:∀x c,X.env.cells.lookup x=some c->H c=none
 pin:∀p∈X.pn++pins,s.heap.get? p.1=some p.2/\H p.1=none/\p.1≠X.env.locals/\p.1∉X.fs/\∀v,p.2.data≠.cell v
 ai:bS X.prog X.w H s.heap
 len:σ.length=X.N.length
section
variable {X:Cx}{pins:List (cW×tm)}{σ:List (Option V)}{H H':Hp}{s:cA}{h':m3}
def Cx.Ok.FE (ok:X.Ok)(e:X.base.get? b=some o):b∉X.fs:=λa=>by
 have:=(ok.iB.mem a).1;rw[e] at this;cases this
theorem Inv.bs (I:Inv X pins σ H s):∀b o,X.base.get? b=some o->s.heap.get? b=some o/\H b=none:=λb o e =>
 ⟨I.base.keep b o (I.ok.bs b o e).1 (I.ok.bs b o e).2 (I.ok.FE e) (I.ok.oE b o e),I.base.free b o (I.ok.bs b o e).1 (I.ok.bs b o e).2 (I.ok.oE b o e)⟩
def Inv.bk (I:Inv X pins σ H s):∀b o,X.base.get? b=some o->s.heap.get? b=some o:=λb o e=>(I.bs b o e).1
theorem Inv.mod (I:Inv X pins σ H s):Mod X.K X.mg X.base:=I.ok.mod
def Inv.fQ (I:Inv X pins σ H s):X.K.In s.heap:=I.ok.mod.v9.keeps I.bk
theorem Inv.lt (I:Inv X pins σ H s):X.env.locals < s.heap.objs.size:=let ⟨_,a,_⟩:=I.loc;a.lt
def Inv.sz (I:Inv X pins σ H s):X.cY.heap.objs.size<=s.heap.objs.size:=pA I.ok.above (VG I.lt)
def Inv.Ou (I:Inv X pins σ H s)(h:s.heap.objs.size<=a):a∉X.fs:=λb=>by
 obtain⟨_,o,c,_⟩:=I.ok.iB.mem b;exact absurd (hQ (fj c) (pA I.sz h)) (qp _)
def Inv.iT (I:Inv X pins σ H s):∀x c,X.env.cells.lookup x=some c->c≠X.env.locals:=λx c e z=>by
 obtain⟨v,o,a,hd⟩:=I.cell x c e;obtain⟨m,⟨o',es,ep,b,d,_⟩,_⟩:=I.loc;rw[z,b] at a;cases a;rw[d] at hd;cases hd
theorem Inv.iB (I:Inv X pins σ H s):s.heap.FunFrames X.base X.outer:=by
 have all:∀(l:List WK),(∀b∈gU l,b∈X.fs)->X.cY.heap.FunFrames X.base l->s.heap.FunFrames X.base l:=by
  intro l;induction l with
  | nil=>intro _ _;trivial
  | cons env r g =>
   intro f h;obtain⟨i,⟨L,o,a,j,k,hd⟩,m⟩:=h;have c:L∈X.fs:=f L (by unfold gU;rw[Vk,a];exact eH)
   obtain⟨sl,e⟩:=I.base.slot L o k (I.ok.mC L c) c λz=>I.ok.qR L z c
   exact⟨i,⟨L,_,a,j,e,hd⟩,g (λb d=>f b (by unfold gU;rw[Vk,a];exact ew _ d)) m⟩
 exact all X.outer (λ_ d=>d) I.ok.iB
theorem Inv.stack (I:Inv X pins σ H s):s.heap.FunFrames X.base X.stack:=by
 rcases I.ok.rP with e | ⟨e,a⟩
 ·rw[e];exact I.iB
 ·rw[e];obtain⟨m,b,_⟩:=I.loc;refine .cons (by rw[I.ok.kind];decide) a b ?_ I.iB
  exact Heap.get?_none_of_le (pA I.ok.jQ I.ok.above)
def Inv.rj (I:Inv X pins σ H s):∀b∈gU X.stack,b∈X.env.locals::X.fs:=λb a=>by
 rcases I.ok.rP with e | ⟨e,c⟩
 ·rw[e] at a;exact ew _ a
 ·rw[e] at a;unfold gU at a;rw[Vk,c] at a;exact a
def Inv.A5 (I:Inv X pins σ H s):∀b∈gU X.stack,H b=none:=λb a=>by
 rcases cR.mp (I.rj b a) with e | a
 ·rw[e];exact I.free
 ·obtain⟨_,o,c,_⟩:=I.ok.iB.mem a;exact I.base.free b o c (I.ok.mC b a) λz=>I.ok.qR b z a
def Inv.step {g':Array WC}{t':Nat}{d':Drawn}{ch:List cW}(I:Inv X pins σ H s)
  (f:∀b∈ch,(b∈X.ex\/X.cY.heap.objs.size<=b)/\b≠X.env.locals/\(∀x c,X.env.cells.lookup x=some c->c≠b)/\∀p∈X.pn++pins,p.1≠b)
  (keep:∀b o,b≠X.env.locals->b∉X.fs->b∉ch->s.heap.get? b=some o->H b=none->h'.get? b=some o)
  (slot:∀b o,b≠X.env.locals->b∈X.fs->b∉ch->s.heap.get? b=some o->H b=none->∃E,h'.get? b=some { o with slots:=E }) (free:∀b o,b∉ch->s.heap.get? b=some o->H b=none->H' b=none)
  (there:∀b o,b∉ch->s.heap.get? b=some o->∃A,h'.get? b=some A)
  (iF:∀b xs,H b=some (.tup xs)->H' b=some (.tup xs)) (gZ:∀b o u,H b=some (.ba o u)->H' b=some (.ba o u)) (iH:∀b C,H b=some (.jJ C)->∃more,H' b=some (.jJ (C++more)))
  (K:∀m,s.heap.Ns X.env.locals m->h'.Ns X.env.locals m) (ai:bS X.prog X.w H' h') (L:Vg g') :
  Inv X pins σ H' { s with heap:=h',gens:=g',drawn:=d',toks:=t' }:=by
 have D:∀b o,X.cY.heap.get? b=some o->b≠X.env.locals:=λb o e=>gW (hQ (fj e) I.ok.above)
 have j:∀b o,X.cY.heap.get? b=some o->b∉X.ex->b∉ch:=λb o e hx h=>by
  rcases (f b h).1 with z | z
  ·exact hx z
  ·exact absurd (hQ (fj e) z) (qp _)
 have t:∀x c,X.env.cells.lookup x=some c->∀v,s.heap.IsCell c v->h'.IsCell c v:=λx c e v ⟨o,y,hd⟩=>by
  have g:c∉ch:=λz=>(f c z).2.2.1 x c e rfl
  by_cases F:c∈X.fs
  ·obtain⟨E,q⟩:=slot c o (I.iT x c e) F g y (I.gz x c e);exact⟨_,q,hd⟩
  ·exact⟨o,keep c o (I.iT x c e) F g y (I.gz x c e),hd⟩
 refine⟨I.ok,I.os,L,⟨λb o e n h hx=>?_,λb o e n h hx=>?_,λb o e n hx=>?_,λb o e hx=>?_,λb xs e=>iF b xs (I.base.iF b xs e),λb o xs e=>gZ b o xs (I.base.gZ b o xs e),λb C e=>?_⟩,?_,λx c e=>?_,?_,λx c e=>?_,λp G=>?_,ai,I.len⟩
 ·exact keep b o (D b o e) h (j b o e hx) (I.base.keep b o e n h hx) (I.base.free b o e n hx)
 ·obtain⟨E,a⟩:=I.base.slot b o e n h hx;obtain⟨J,B⟩:=slot b _ (D b o e) h (j b o e hx) a (I.base.free b o e n hx);exact⟨J,B⟩
 ·obtain⟨A,a⟩:=I.base.there b o e hx;exact free b A (j b o e hx) a (I.base.free b o e n hx)
 ·obtain⟨A,a⟩:=I.base.there b o e hx;exact there b A (j b o e hx) a
 ·obtain⟨M,a⟩:=I.base.iH b C e;obtain⟨N,B⟩:=iH b _ a;exact⟨M++N,by rw[B,Array.append_assoc]⟩
 ·obtain⟨m,O,P⟩:=I.loc;refine⟨m,K m O,λi x v a B Q=>?_⟩
  obtain⟨u,r,l⟩:=P i x v a B Q;refine⟨u,r,?_⟩
  rcases l with l | ⟨k,c,e,z⟩
  ·exact .inl l
  ·exact .inr ⟨k,c,e,t x c e _ z⟩
 ·obtain⟨v,z⟩:=I.cell x c e;exact⟨v,t x c e v z⟩
 ·obtain⟨m,⟨o,_,_,y,_⟩,_⟩:=I.loc;exact free _ o (λz=>(f _ z).2.1 rfl) y I.free
 ·obtain⟨v,o,y,hd⟩:=I.cell x c e;exact free c o (λz=>(f c z).2.2.1 x c e rfl) y (I.gz x c e)
 ·obtain⟨e,n,ne,nf,d⟩:=I.pin p G;have g:p.1∉ch:=λz=>(f p.1 z).2.2.2 p G rfl
  exact⟨keep p.1 p.2 ne nf g e n,free p.1 p.2 g e n,ne,nf,d⟩
def Inv.un (I:Inv X pins σ H s)(u:Un X.fs [] H H' s.heap h')(ai:bS X.prog X.w H' h'):Inv X pins σ H' { s with heap:=h',toks:=t' }:=by
 obtain⟨m,⟨o,es,ep,d,r⟩,_⟩:=id I.loc;obtain⟨sl,h⟩:=u.any d I.free (by simp)
 exact I.step (g':=s.gens) (d':=s.drawn) (ch:=[]) (λ_ z=>nomatch z) (λb o _ c _ e n=>u.keep b o e n c (by simp)) (λb o _ c _ e n=>u.slot b o e n c (by simp)) (λb o _ e n=>u.free b o e n (by simp)) (λb o _ e=>u.there b o e (by simp)) u.iF u.gZ u.iH (λm' i=>by
  obtain⟨o',f,g,a,j⟩:=i;rw[d] at a;cases a;exact⟨_,f,g,h,j⟩) ai I.bare
def Inv.call (I:Inv X pins σ H s)(u:Un (gU X.stack) ch H H' s.heap h')(ai:bS X.prog X.w H' h')(k:Vg g')(d:∀b∈ch,(b∈X.ex\/X.cY.heap.objs.size<=b)/\b≠X.env.locals/\(∀x c,X.env.cells.lookup x=some c->c≠b)/\∀p∈X.pn++pins,p.1≠b) :
  Inv X pins σ H' { s with heap:=h',gens:=g',drawn:=d',toks:=t' }:=by
 obtain⟨m,⟨o,es,ep,h,r⟩,_⟩:=id I.loc;obtain⟨sl,g⟩:=u.any h I.free λz=>(d _ z).2.1 rfl
 exact I.step (ch:=ch) d (λb o g l a e n=>u.keep b o e n (λz=>(cR.mp (I.rj b z)).elim g l) a) (λb o _ _ a e n=>u.any e n a) (λb o a e n=>u.free b o e n a) (λb o a e=>u.there b o e a) u.iF u.gZ u.iH (λm' q=>by
  obtain⟨o',i,j,f,t⟩:=q;rw[h] at f;cases f;exact⟨_,i,j,g,t⟩) ai k
def Inv.turned (I:Inv X pins σ H s)(k:∀b o,b≠it->s.heap.get? b=some o->h'.get? b=some o)(g:H it=none)(f:it≠X.env.locals)(h:it∈X.ex\/X.cY.heap.objs.size<=it)(i:∀x c,X.env.cells.lookup x=some c->c≠it)(j:∀p∈X.pn++pins,p.1≠it):Inv X pins σ H { s with heap:=h',toks:=t' }:=by
 have d:∀b u,H b=some u->b≠it:=λb u e z=>by rw[z,g] at e;cases e
 refine I.step (g':=s.gens) (d':=s.drawn) (ch:=[it]) (λb l=>?_) (λb o _ _ a e _=>k b o (λz=>a (by simp[z])) e) (λb o _ _ a e _=>⟨o.slots,k b o (λz=>a (by simp[z])) e⟩) (λ_ _ _ _ n=>n)
  (λb o a e=>⟨o,k b o (λz=>a (by simp[z])) e⟩) (λ_ _ e=>e) (λ_ _ _ e=>e) (λb ps e=>⟨#[],by rw[e];simp⟩) (λm t=>?_) (λb u e=>?_) I.bare
 ·have e:b=it:=by simpa using l
  subst e;exact⟨h,f,i,j⟩
 ·obtain⟨o,w,ep,y,r⟩:=t;exact⟨o,w,ep,k _ o (Ne.symm f) y,r⟩
 ·refine (I.ai b u e).ij (λc v a q=>k c v ?_ q) (λ_ q=>q) λ_ _ q=>q
  rcases a with z | z
  ·rw[z];exact d b u e
  ·exact d c _ z
def Inv.tok (I:Inv X pins σ H s) (t:Nat):Inv X pins σ H { s with toks:=t }:=I.un (h':=s.heap) (t':=t) Un.refl I.ai
theorem Inv.kept (I:Inv X pins σ H s)(k:∀b u,s.heap.get? b=some u->h'.get? b=some u):Inv X pins σ H { s with heap:=h',toks:=t' }:=I.un (Un.kept k) (I.ai.kept k)
theorem Inv.laid (I:Inv X pins σ H s)(k:∀b u,s.heap.get? b=some u->h'.get? b=some u)(c:s.heap.objs.size<=a)(d:cB X.prog X.w (upd H a o) h' a o) :
  Inv X pins σ (upd H a o) { s with heap:=h',toks:=t' }:=I.un (Un.laid k c (I.ai.fresh c)) (I.ai.laid k c d)
theorem Inv.write (I:Inv X pins σ H s)(c:oR (H x))(d:e=x\/H e=some (.own x))(k:∀b u,b≠e->s.heap.get? b=some u->h'.get? b=some u)(a:∃u,h'.get? e=some u)(f:cB X.prog X.w (upd H x o) h' x o):Inv X pins σ (upd H x o) { s with heap:=h',toks:=t' }:=I.un (Un.write c d k a) (I.ai.write c d k a f)
def Inv.Bm (I:Inv X pins σ H s)(h:∀p∈a,s.heap.get? p.1=some p.2/\H p.1=none/\p.1≠X.env.locals/\p.1∉X.fs/\∀v,p.2.data≠.cell v):Inv X a σ H s :=
 ⟨I.ok,I.os,I.bare,I.base,I.loc,I.cell,I.free,I.gz,λp b=>(ee.mp b).elim (λz=>I.pin p (WU _ z)) (h p),I.ai,I.len⟩
def Ci {N:List eT}(c:N.Nodup) {i j:Nat}{x:eT}(a:N[i]? = some x) (b:N[j]? = some x):i=j:=by
 obtain⟨h1,d⟩:=bc.mp a;obtain⟨h2,e⟩:=bc.mp b;exact (zb c).mp (d.trans e.symm)
def zr (I:Inv X pins σ H s)(hN:X.N.Nodup)(G:X.N[i]? = some x)(hx:Loc X.env.scope x)(r:RelV v u)(h:∀s',Inv X pins (σ.set i (some v)) H s'->(∃a,UO a s.heap s'.heap/\(a=X.env.locals\/X.env.cells.lookup x=some a))->Q () s')(hf:X.fn x=true\/X.env.scope.names.lookup x=some .local:=by first | exact .inl rfl | exact .inr rfl | assumption):hE M A (storeName X.env x u) Q E s:=by
 obtain⟨m,T,hl⟩:=id I.loc;have U:(X.env.scope.kind == .class || (X.env.scope.kind == .module && X.env.locals != X.env.globals))=false:=by rw[I.ok.kind];rfl
 have J:i < σ.length:=by rw[I.len];exact (bc.mp G).1
 have iT:=I.iT;have tracked:∀{a:cW}{h':m3},(∃o,s.heap.get? a=some o/\H a=none)->UO a s.heap h'->bS X.prog X.w H h':=λ{a h'} ha f b ob e=>by
  obtain⟨_,_,F⟩:=ha;refine (I.ai b ob e).ij (λc L l q=>(f.2 c ?_).trans q) (λ_ q=>q) λ_ _ q=>q
  rintro rfl
  rcases l with rfl | l
  ·rw[F] at e;cases e
  ·rw[F] at l;cases l
 rcases hx with B | B
 ·refine wpAny_storeName_local B T (λh' O9 f=>?_) U
  obtain⟨oL,_,_,O',_⟩:=id T;refine h _ ⟨I.ok,I.os,I.bare,⟨λb o e n C hx=>?_,λb o e n C hx=>?_,I.base.free,λb o e hx=>?_,I.base.iF,I.base.gZ,I.base.iH⟩,⟨_,O9,λj y W g t Y=>?_⟩,λy c e=>?_,I.free,I.gz,λp Z=>?_,tracked ⟨oL,O',I.free⟩ f,by simpa using I.len⟩ ⟨_,f,.inl rfl⟩
  ·exact (f.2 b (gW (hQ (fj e) I.ok.above))).trans (I.base.keep b o e n C hx)
  ·obtain⟨sl,g⟩:=I.base.slot b o e n C hx;exact⟨sl,(f.2 b (gW (hQ (fj e) I.ok.above))).trans g⟩
  ·obtain⟨o',g⟩:=I.base.there b o e hx;exact⟨o',(f.2 b (gW (hQ (fj e) I.ok.above))).trans g⟩
  ·by_cases D:j=i
   ·subst D;rw[G] at g;cases g;rw[iW J] at t;cases t;exact⟨u,r,.inl ⟨B,by simp⟩⟩
   ·rw[iN (Ne.symm D)] at t;obtain⟨u',r',q⟩:=hl j y W g t Y;refine⟨u',r',?_⟩
    rcases q with⟨k,e⟩ | ⟨k,c,e,z⟩
    ·refine .inl ⟨k,?_⟩;have:y≠x:=λe=>D (Ci hN g (e ▸ G))
     simp[this,e]
    ·exact .inr ⟨k,c,e,z.sameBut f (iT y c e)⟩
  ·obtain⟨L,z⟩:=I.cell y c e;exact⟨L,z.sameBut f (iT y c e)⟩
  ·obtain⟨e,n,ne,nf,d⟩:=I.pin p Z;exact⟨(f.2 p.1 ne).trans e,n,ne,nf,d⟩
 ·have K:X.fn x=true:=by
   rcases hf with z | z
   ·exact z
   ·rw[z] at B;cases B
  obtain⟨c,l⟩:=I.ok.has x (.inl B);obtain⟨L,z⟩:=I.cell x c l;refine wpAny_storeName_cell I.ok.kind B l z (λh' P f=>?_)
  obtain⟨oc,R,O6⟩:=id z;refine h { s with heap:=h' } ⟨I.ok,I.os,I.bare,⟨λb o e n C hx=>?_,λb o e n C hx=>?_,I.base.free,λb o e hx=>?_,I.base.iF,I.base.gZ,I.base.iH⟩,⟨m,T.sameBut f (Ne.symm (iT x c l)),λj y W g t Y=>?_⟩,λy O e=>?_,I.free,I.gz,λp Z=>?_,tracked ⟨oc,R,I.gz x c l⟩ f,by simpa using I.len⟩ ⟨c,f,.inr l⟩
  ·exact (f.2 b (gW (hQ (fj e) (I.ok.nY x c K l)))).trans (I.base.keep b o e n C hx)
  ·obtain⟨sl,g⟩:=I.base.slot b o e n C hx;exact⟨sl,(f.2 b (gW (hQ (fj e) (I.ok.nY x c K l)))).trans g⟩
  ·obtain⟨o',g⟩:=I.base.there b o e hx;exact⟨o',(f.2 b (gW (hQ (fj e) (I.ok.nY x c K l)))).trans g⟩
  ·by_cases D:j=i
   ·subst D;rw[G] at g;cases g;rw[iW J] at t;cases t;exact⟨u,r,.inr ⟨.inl B,c,l,P⟩⟩
   ·rw[iN (Ne.symm D)] at t;obtain⟨u',r',q⟩:=hl j y W g t Y;refine⟨u',r',?_⟩
    rcases q with q | ⟨k,O,e,z'⟩
    ·exact .inl q
    ·refine .inr ⟨k,O,e,z'.sameBut f ?_⟩;rintro rfl;exact D (Ci hN g (I.ok.inj _ _ _ e l ▸ G))
  ·by_cases S:O=c
   ·subst S;exact⟨_,P⟩
   ·obtain⟨w2,z2⟩:=I.cell y O e;exact⟨w2,z2.sameBut f S⟩
  ·obtain⟨e,n,ne,nf,d⟩:=I.pin p Z;refine⟨(f.2 p.1 ?_).trans e,n,ne,nf,d⟩;intro q;rw[q,R] at e;have q':oc=p.2:=Option.some.inj e;exact d L (by rw[<- q'];exact O6)
def Cm (I:Inv X pins σ H s)(a:X.N.Nodup)(b:X.N[i]? = some x)(hx:Loc X.env.scope x)(r:RelV v u)(h:∀s',Inv X pins (σ.set i (some v)) H s'->Q () s')(c:X.fn x=true\/X.env.scope.names.lookup x=some .local:=by first | exact .inl rfl | exact .inr rfl | assumption):hE M A (storeName X.env x u) Q E s :=
 zr I a b hx r (λs' d _=>h s' d) c
def Inv.Ky (I:Inv X pins σ H s)(d:s'.os=s.os)(u:Un (gU X.stack) ch H H' s.heap s'.heap)(ai:bS X.prog X.w H' s'.heap)(f:Vg s'.gens)(a:∀b∈ch,(b∈X.ex\/X.cY.heap.objs.size<=b)/\b≠X.env.locals/\(∀x c,X.env.cells.lookup x=some c->c≠b)/\∀p∈X.pn++pins,p.1≠b):Inv X pins σ H' s':=by
 obtain⟨h',g',d',t',g⟩:=s';have e:g=s.os:=d;subst e;exact I.call (g':=g') (t':=t') (d':=d') u ai f a
end
noncomputable abbrev XK:=b8->Option cW->Hp->Prop
noncomputable abbrev St:=List (Option V)
noncomputable abbrev VK:=V->Hp->Prop
noncomputable abbrev TE:=St->Hp->VK->Prop
noncomputable abbrev TT:=St->Hp->(Bool->Hp->Prop)->Prop
noncomputable abbrev TA:=St->Hp->(List V->Hp->Prop)->Prop
structure Ends where
 nx:St->Hp->Prop
 rt:VK
 bk:St->Hp->Prop:=λ_ _=>False
 ct:St->Hp->Prop:=λ_ _=>False
noncomputable abbrev TS:=Ends->St->Hp->Prop
noncomputable def EP (X:Cx) (a:List (cW×tm)) (c:St) (Q:VK) (u:b8) (s':cA):Prop:=∃v b,Inv X a c b s'/\RelV v u/\Q v b
noncomputable def TP (X:Cx) (a:List (cW×tm)) (d:St) (Q:Bool->Hp->Prop) (b:Bool) (s':cA):Prop:=∃c,Inv X a d c s'/\Q b c
noncomputable def AP (X:Cx) (a:List (cW×tm)) (c:St) (Q:List V->Hp->Prop) (d:List b8) (s':cA):Prop:=∃vs b,Inv X a c b s'/\aC vs d/\Q vs b
noncomputable def SP (X:Cx) (c:List (cW×tm)) (D:Ends) (f:Flow) (s':cA):Prop :=
 match f with
 | .next=>∃a b,Inv X c a b s'/\D.nx a b
 | .brk=>∃a b,Inv X c a b s'/\D.bk a b
 | .cont=>∃a b,Inv X c a b s'/\D.ct a b
 | .ret u=>∃v a b,Inv X c a b s'/\RelV v u/\D.rt v b
noncomputable def PE (X:Cx) (e:gs) (t:TE):Prop :=
 ∀(a:List (cW×tm)) (s:cA) (b:St) (H:Hp) (Q:VK),Inv X a b H s->t b H Q->hE (hR X.prog X.w) X.A (eval e X.env) (EP X a b Q) X.xe s
noncomputable def PT (X:Cx) (e:gs) (t:TT):Prop :=
 ∀(a:List (cW×tm)) (s:cA) (b:St) (H:Hp) (Q:Bool->Hp->Prop),Inv X a b H s->t b H Q->hE (hR X.prog X.w) X.A (Xr e X.env (eval e X.env)) (TP X a b Q) X.xe s
noncomputable def PW (X:Cx) (e:gs) (t:TT):Prop :=
 ∀(b:Zb b8) (a:List (cW×tm)) (s:cA) (c:St) (H:Hp) (Q:Bool->Hp->Prop),Inv X a c H s->t c H Q->hE (hR X.prog X.w) X.A (Xr e X.env b) (TP X a c Q) X.xe s
def PW.pt (h:PW X e t):PT X e t:=h _
noncomputable def PA (X:Cx) (c:List gs) (t:TA):Prop :=
 ∀(pos:qe) (a:List (cW×tm)) (s:cA) (b:St) (H:Hp) (Q:List V->Hp->Prop),Inv X a b H s->t b H Q->hE (hR X.prog X.w) X.A (spliced (T3 pos (ph c X.env))) (AP X a b Q) X.xe s
noncomputable def PS (X:Cx) (st:Ue) (t:TS):Prop :=
 ∀(a:List (cW×tm)) (s:cA) (b:St) (H:Hp) (D:Ends),Inv X a b H s->t D b H->hE (hR X.prog X.w) X.A (exec st X.env) (SP X a D) X.xe s
noncomputable def gn (X:Cx) (st:List Ue) (t:TS):Prop :=
 ∀(a:List (cW×tm)) (s:cA) (b:St) (H:Hp) (D:Ends),Inv X a b H s->t D b H->hE (hR X.prog X.w) X.A (execs st X.env) (SP X a D) X.xe s
def aB (h:hE M A t Q E s)(d:∀a s,Q a s->c a s):hE M A t c E s:=uz h d λ_ _ x=>x
section
variable {X:Cx}
noncomputable def xj (i:Nat):TE:=λa H Q=>∃v,a[i]? = some (some v)/\Q v H
noncomputable def tC (v:V):TE:=λ_ H Q=>Q v H
def eC (k:X.N[i]? = some x)(n:cc X.env.scope x)(hd:bJ x:=by decide)(g:cM x:=by decide):PE X (.Name x pos) (xj i):=by
 intro f s o H Q I h;obtain⟨v,e,h⟩:=h;obtain⟨m,p,q⟩:=I.loc;obtain⟨u,r,l⟩:=q i x v k e n;have d:EP X f o Q u s:=⟨v,H,I,r,h⟩
 rcases l with⟨a,t⟩ | ⟨a,c,j,b⟩
 ·exact X9 (wpAny_loadName_local I.ok.kind a p t d) hd
 ·rcases a with a | a
  ·exact X9 (wpAny_loadName_cell I.ok.kind a j b d) hd
  ·exact X9 (wpAny_loadName_free I.ok.kind a j b d g) hd
def F0 {i j pos}:PE X (.Constant (.int i) j pos) (tC (.int i)):=λ_ _ _ H _ I h=>wpAny_Constant_int ⟨.int i,H,I.tok _,⟨_,rfl⟩,h⟩
def G6 {b j pos}:PE X (.Constant (.bool b) j pos) (tC (.bl b)):=λ_ _ _ H _ I h=>Constant_bool ⟨.bl b,H,I,rfl,h⟩
def zW {x j pos}:PE X (.Constant (.str x) j pos) (tC (.str x)):=λ_ _ _ H _ I h=>W2 ⟨.str x,H,I.tok _,⟨_,rfl⟩,h⟩
noncomputable def Gl (X:Cx) (x:eT):Prop:=X.env.kindOf x=some .globalImplicit
def C0 (I:Inv X a b H s)(c:Gl X x)(d:X.mg x=some u)(h:Q u s)(hd:bJ x:=by decide):hE (hR X.prog X.w) X.A (eval (.Name x pos) X.env) Q E s :=
 V5 I.ok.kind c (Calls.loadGlobal_global (by rw[I.ok.glob];exact I.mod.glob.keeps I.bk) d h) hd
def nT (I:Inv X a b H s)(c:Gl X x)(d:X.mg x=none)(e:P2 x=some u)(h:Q u s)(f:x≠"__name__":=by decide)(hd:bJ x:=by decide):hE (hR X.prog X.w) X.A (eval (.Name x pos) X.env) Q E s:=by
 obtain⟨mb,g,i⟩:=I.mod.blt;exact V5 I.ok.kind c (Calls.loadGlobal_builtin (by rw[I.ok.glob];exact I.mod.glob.keeps I.bk) d (by rw[I.ok.blt];exact g.keeps I.bk) ((i x f).trans e) h) hd
def Al (a:Gl X x)(b:X.mg x=some u)(r:RelV v u)(hd:bJ x:=by decide):PE X (.Name x pos) (tC v) :=
 λ_ _ _ H _ I h=>C0 I a b ⟨v,H,I,r,h⟩ hd
def Ms (a:Gl X x)(b:X.mg x=none)(c:P2 x=some u)(r:RelV v u)(d:x≠"__name__":=by decide)(hd:bJ x:=by decide):PE X (.Name x pos) (tC v) :=
 λ_ _ _ H _ I h=>nT I a b c ⟨v,H,I,r,h⟩ d hd
variable {a b:gs}{ta tb:TE}{pos:qe}
variable {tA tB':TT}{rest:List gs}
noncomputable def Oj (t u:TT):TT:=λd H Q=>t d H λc e=>if c=true then u d e Q else Q false e
noncomputable def Hq (t u:TT):TT:=λd H Q=>t d H λc e=>if c=true then Q true e else u d e Q
noncomputable def KN (t:TT):TT:=λd H Q=>t d H λc e=>Q (!c) e
theorem N5 (f:PT X a tA):PW X (.BoolOp .And [a] pos) tA:=by
 intro wh d s g H Q I h;refine isTrue_and (aB (f d s g H Q I h) λc s1 e=>?_)
 cases c with
 | true=>exact isTrue_and_nil e
 | false=>exact e
theorem Kj (f:PT X a tA):PW X (.BoolOp .Or [a] pos) tA:=by
 intro wh d s g H Q I h;refine isTrue_or (aB (f d s g H Q I h) λc s1 e=>?_)
 cases c with
 | false=>exact isTrue_or_nil e
 | true=>exact e
theorem Nq (j:PT X a tA) (k:PW X (.BoolOp .And (b::rest) pos) tB'):PW X (.BoolOp .And (a::b::rest) pos) (Oj tA tB'):=by
 intro l d s e H Q I h;refine isTrue_and (aB (j d s e H _ I h) λc m ⟨f,g,i⟩=>?_)
 cases c with
 | true=>exact k l d m e f Q g i
 | false=>exact⟨f,g,i⟩
theorem Eu (j:PT X a tA) (k:PW X (.BoolOp .Or (b::rest) pos) tB'):PW X (.BoolOp .Or (a::b::rest) pos) (Hq tA tB'):=by
 intro l d s e H Q I h;refine isTrue_or (aB (j d s e H _ I h) λc m ⟨f,g,i⟩=>?_)
 cases c with
 | true=>exact⟨f,g,i⟩
 | false=>exact k l d m e f Q g i
def Kz (e:PT X a tA):PT X (.UnaryOp .Not a pos) (KN tA):=by
 intro d s f H Q I h;exact isTrue_not (e d s f H (λc g=>Q (!c) g) I h)
def Nc {op}(h:PE X a t):PE X (.BoolOp op [a] pos) t:=λc s d H Q I hw=>BoolOp_one (h c s d H Q I hw)
end
noncomputable def cb (K:gj) (H:Hp) (a:cW) (xs:List V):Prop :=
 Rd H a (.lst xs) \/
  ∃(o:tm) (its:Array b8) (n:Nat),K.lookup a=some o/\o.cls=.type "list"/\o.dict=none/\o.data=.seq its n/\its.size<=bg/\aC xs its.toList
noncomputable def bb (K:gj) (H:Hp) (a:cW) (xs:List V):Prop :=
 Rd H a (.tup xs) \/
  ∃(o:tm) (its:Array b8) (n:Nat),K.lookup a=some o/\o.cls=.type "tuple"/\o.data=.seq its n/\its.size<=bg/\aC xs its.toList
noncomputable def D':b8->Option V
 | .none=>some .aK
 | .bool b=>some (.bl b)
 | .int i _=>some (.int i)
 | .str x _=>some (.str x)
 | .bytes b _=>some (.oU b)
 | .float b _=>some (.wd b)
 | .ref a=>some (.ref a)
 | .type n=>some (.ty n)
 | _=>none
theorem RelV.abs (r:RelV x u):D' u=some x:=by
 cases x with
 | aK=>cases r;rfl
 | bl _=>cases r;rfl
 | int _=>obtain⟨t,rfl⟩:=r;rfl
 | str _=>obtain⟨t,rfl⟩:=r;rfl
 | oU _=>obtain⟨t,rfl⟩:=r;rfl
 | wd _=>obtain⟨t,rfl⟩:=r;rfl
 | ref _=>cases r;rfl
 | ty _=>cases r;rfl
theorem RelV.inj (r:RelV x u)(q:RelV y u):x=y:=Option.some.inj (r.abs.symm.trans q.abs)
theorem aC.inj (h:aC xs a)(h':aC ys a):xs=ys:=by
 induction h generalizing ys with
 | nil=>cases h';rfl
 | cons r t b =>
  cases h' with
  | cons c t'=>rw[r.inj c,b t']
section
variable {X:Cx}{pins:List (cW×tm)}{σ:St}{H:Hp}{s:cA}{a:cW}{xs ys:List V}
def cb.of {K:gj}(h:H a=some (.lst xs)):cb K H a xs:=.inl (.inl h)
def bb.of {K:gj}(h:H a=some (.tup xs)):bb K H a xs:=.inl (.inl h)
def Inv.list (I:Inv X pins σ H s) (h:cb X.K H a xs):∃its:List b8,aC xs its/\PlainL s.heap a its.toArray/\xs.length<=sizeLine:=by
 rcases h with h | ⟨o,its,n,b,c,hd,d,hz,r⟩
 ·obtain⟨z,its,n,r,e⟩:=h.ok I.ai;exact⟨its,r,⟨_,n,e,rfl,rfl,rfl⟩,z⟩
 ·refine⟨its.toList,r,⟨o,n,I.fQ a o b,c,hd,by simpa using d⟩,?_⟩
  have e:=r.length;simp only[m5] at e;omega
def Inv.tuple (I:Inv X pins σ H s) (h:bb X.K H a xs):∃its:List b8,aC xs its/\T7 s.heap a its.toArray/\xs.length<=sizeLine:=by
 rcases h with h | ⟨o,its,n,b,c,d,hz,r⟩
 ·obtain⟨z,its,r,p⟩:=h.ok I.ai;exact⟨its,r,p,z⟩
 ·refine⟨its.toList,r,⟨o,I.fQ a o b,c,n,by simpa using d⟩,?_⟩
  have e:=r.length;simp only[m5] at e;omega
def Inv.Lj (I:Inv X pins σ H s) (h:cb X.K H a xs) (h':cb X.K H a ys):xs=ys:=by
 obtain⟨its,r,⟨o,n,e,_,_,d⟩,_⟩:=I.list h;obtain⟨its',c,⟨o',n',b,_,_,d'⟩,_⟩:=I.list h';rw[e] at b;cases b;rw[d] at d';injection d' with f _
 have:its=its':=by simpa using congrArg Yq f
 subst this;exact r.inj c
def Inv.Mo (I:Inv X pins σ H s) (h:bb X.K H a xs) (h':bb X.K H a ys):xs=ys:=by
 obtain⟨its,r,⟨o,e,_,n,d⟩,_⟩:=I.tuple h;obtain⟨its',c,⟨o',b,_,n',d'⟩,_⟩:=I.tuple h';rw[e] at b;cases b;rw[d] at d';injection d' with f _
 have:its=its':=by simpa using congrArg Yq f
 subst this;exact r.inj c
end
noncomputable abbrev Cx.i7 (X:Cx) (E:b8->cA->Prop):Cx:={ X with xe:=E }
noncomputable abbrev Cx.jN (X:Cx):Cx:=X.i7 λ_ _=>False
theorem Cx.Ok.i7 {X:Cx}(ok:X.Ok) (E:b8->cA->Prop):(X.i7 E).Ok :=
 ⟨ok.mod,ok.kind,ok.glob,ok.blt,ok.above,ok.inj,ok.has,ok.nY,ok.hd,ok.frames,ok.rP,ok.zN,ok.bs,ok.jQ,ok.oE,ok.qR,ok.iB,ok.mC⟩
def Cx.Ok.jT {X:Cx}{E:b8->cA->Prop}(ok:(X.i7 E).Ok):X.Ok :=
 ⟨ok.mod,ok.kind,ok.glob,ok.blt,ok.above,ok.inj,ok.has,ok.nY,ok.hd,ok.frames,ok.rP,ok.zN,ok.bs,ok.jQ,ok.oE,ok.qR,ok.iB,ok.mC⟩
section
variable {X:Cx}{pins:List (cW×tm)}{σ:St}{H:Hp}{s:cA}{E:b8->cA->Prop}
theorem Inv.i7 (I:Inv X pins σ H s) (E:b8->cA->Prop):Inv (X.i7 E) pins σ H s:=⟨I.ok.i7 E,I.os,I.bare,I.base,I.loc,I.cell,I.free,I.gz,I.pin,I.ai,I.len⟩
theorem Inv.jT (I:Inv (X.i7 E) pins σ H s):Inv X pins σ H s:=⟨I.ok.jT,I.os,I.bare,I.base,I.loc,I.cell,I.free,I.gz,I.pin,I.ai,I.len⟩
theorem SP.jT (h:SP (X.i7 E) pins D f s'):SP X pins D f s':=by
 cases f with
 | next=>obtain⟨a,b,I,q⟩:=h;exact⟨a,b,I.jT,q⟩
 | brk=>obtain⟨a,b,I,q⟩:=h;exact⟨a,b,I.jT,q⟩
 | cont=>obtain⟨a,b,I,q⟩:=h;exact⟨a,b,I.jT,q⟩
 | ret u=>obtain⟨v,a,b,I,r,q⟩:=h;exact⟨v,a,b,I.jT,r,q⟩
theorem gn.jN {st:List Ue}{t:TS}(h:gn X.jN st t):gn X st t:=λpins s σ H D I hw =>
 uz (h pins s σ H D (I.i7 _) hw) (λ_ _ q=>q.jT) λ_ _ z=>z6 z
end
section
variable {X:Cx}{st:Ue}{rest:List Ue}{t u:TS}{e:gs}{te:TE}{pos:qe}
noncomputable def Lg:TS:=λD a H=>D.nx a H
noncomputable def Ku (t u:TS):TS:=λD a H=>t { D with nx:=u D } a H
def Lx:gn X [] Lg:=λ_ _ a H _ I h=>Wm ⟨a,H,I,h⟩
theorem Oo (c:PS X st t) (d:gn X rest u):gn X (st::rest) (Ku t u):=by
 intro a s g H D I h;refine wpAny_execs_cons (aB (c a s g H { D with nx:=u D } I h) λf i q=>?_)
 cases f with
 | next =>
  obtain⟨b,j,k,q⟩:=q;exact d a i b j D k q
 | ret v=>exact q
 | brk=>exact q
 | cont=>exact q
def Inv.quiet (I:Inv X a b H s):interactive X.env=false:=by simp[interactive,I.ok.kind]
noncomputable def HD (te:TE):TS:=λD a H=>te a H λ_ b=>D.nx a b
def E3 (c:PE X e te) (d:r0 e none pos.line X.env=pure false:=by rfl):PS X (.Expr e pos) (HD te):=by
 intro a s b H D I h;exact wpAny_Expr_any (aB (c a s b H _ I h) λv s1 ⟨x,f,g,r1,i⟩=>⟨b,f,g,i⟩) I.quiet d
noncomputable def He (te:TE):TS:=λD a H=>te a H D.rt
def D8 (c:PE X e te):PS X (.Return (some e) pos) (He te):=by
 intro a s b H D I h;exact wpAny_Return_some (aB (c a s b H _ I h) λv s1 ⟨x,d,f,g,i⟩=>⟨x,b,d,f,g,i⟩)
noncomputable def Jl (c:TT) (t u:TS):TS:=λD a H=>c a H λb d=>if b=true then t D a d else u D a d
theorem L4 (m:PT X c tc)(n:gn X a t)(o:gn X b u):PS X (.If c a b pos) (Jl tc t u):=by
 intro f s g H D I h;refine wpAny_If (aB (m f s g H _ I h) λd i ⟨j,k,l⟩=>?_)
 cases d with
 | true=>exact n f i g j D k l
 | false=>exact o f i g j D k l
end
noncomputable abbrev TG:=V->St->Hp->(St->Hp->Prop)->Prop
noncomputable abbrev iQ:=List V->St->Hp->(St->Hp->Prop)->Prop
noncomputable def PG (X:Cx) (target:gs) (t:TG):Prop :=
 ∀(a:List (cW×tm)) (s:cA) (c:St) (H:Hp) (v:V) (u:b8) (Q:St->Hp->Prop),Inv X a c H s->RelV v u->t v c H Q ->
  hE (hR X.prog X.w) X.A (T8 target X.env u) (λ_ s'=>∃b d,Inv X a b d s'/\Q b d) X.xe s
noncomputable def mO (X:Cx) (f:List gs) (t:iQ):Prop :=
 ∀(a:List (cW×tm)) (s:cA) (c:St) (H:Hp) (vs:List V) (d:List b8) (Q:St->Hp->Prop),Inv X a c H s->aC vs d->t vs c H Q ->
  hE (hR X.prog X.w) X.A (assignInOrder ((nS f X.env).map (·.2)) d) (λ_ s'=>∃b e,Inv X a b e s'/\Q b e) X.xe s
noncomputable abbrev tB:=V->V->V->Hp->(Hp->Prop)->Prop
noncomputable def Bt (X:Cx) (t:tB):Prop :=
 ∀(a:List (cW×tm)) (s:cA) (b:St) (H:Hp) (o i v:V) (c d u:b8) (Q:Hp->Prop),Inv X a b H s->RelV o c->RelV i d->RelV v u->t o i v H Q ->
  hE (hR X.prog X.w) X.A (Yt c d u) (λ_ s'=>∃e,Inv X a b e s'/\Q e) X.xe s
section
variable {X:Cx}{pos:qe}
noncomputable def qB (i:Nat):TG:=λv a H Q=>Q (a.set i (some v)) H
def Jf (a:X.N.Nodup)(b:X.N[i]? = some x)(hx:Loc X.env.scope x)(c:X.fn x=true\/X.env.scope.names.lookup x=some .local:=by first | exact .inl rfl | exact .inr rfl | assumption):PG X (.Name x pos) (qB i):=by
 intro pins s σ H v u Q I r h;exact Yr (Cm I a b hx r (λs' d=>⟨_,H,d,h⟩) c)
noncomputable def OK:iQ:=λvs a H Q=>vs=[]/\Q a H
noncomputable def Nv (t:TG) (u:iQ):iQ:=λvs b H Q=>∃v r,vs=v::r/\t v b H λa c=>u r a c Q
def HV:mO X [] OK:=by
 intro pins s a H vs us Q I r h;obtain⟨e,h⟩:=h;subst e;cases r;exact assignInOrder_nil ⟨a,H,I,h⟩
theorem Hb (d:PG X e t)(f:mO X b u)(g:(nS (e::b) X.env).map (·.2)=T8 e X.env::(nS b X.env).map (·.2):=by rfl):mO X (e::b) (Nv t u):=by
 intro a s i H vs us Q I r h;obtain⟨v,vr,j,h⟩:=h;subst j;cases r with
 | cons r k =>
  rw[g];refine assignInOrder_cons (aB (d a s i H _ _ _ I r h) λ_ l ⟨c,m,n,o⟩=>?_)
  exact f a l c m _ _ Q n k o
noncomputable def Hv (K:gj) (n:Nat) (t:iQ):TG:=λv b H Q=>∃a xs,v=.ref a/\bb K H a xs/\xs.length=n/\t xs b H Q
def Oq (j:X.calm=true)(h:mO X d t)(l:(nS d X.env).length=n:=by rfl)(f:(nS d X.env).findIdx? (·.1)=none:=by rfl):PG X (.Tuple d k pos) (Hv X.K n t):=by
 intro c s g H v u Q I r hw;obtain⟨a,xs,m,p,q,hw⟩:=hw;subst m;cases r;obtain⟨its,i,w,hz⟩:=I.tuple p;refine assign_Tuple_tuple (I.ok.hd j) w (by simp[l,<- q,i.length]) f λh' hx=>?_
 have x:Inv X c g H { s with heap:=h' }:=I.kept (t':=s.toks) λb o e=>hx b o (gW (fj e)) e
 exact h c _ g H xs _ Q x (by simpa using i) hw
noncomputable def EX (to b:TE) (t:tB):TG:=λv a H Q=>to a H λo c=>b a c λi d=>t o i v d λe=>Q a e
def Oc (f:PE X o to)(g:PE X i e)(j:Bt X t)(k:∀v,T8 (.Subscript o i pos) X.env v=(do
   let b <- Ub [v] (eval o X.env)
   let c <- Ub [v,b] (eval i X.env)
   Xn pos
   Ub [v,b,c] (Yt b c v)
   release [v,b,c] []):=by intro _;rfl):PG X (.Subscript o i pos) (EX to e t):=by
 intro a s d H v u Q I r h;rw[k];refine bt (nL (aB (f a s d H _ I h) λb l ⟨x,m,n,p,q⟩=>?_))
 refine bt (nL (aB (g a l d m _ n q) λc w ⟨y,z,A,B,C⟩=>?_))
 refine bt (VI (bt (nL (aB (j a w d z x y v b c u _ A p B r C) λ_ s3 ⟨D,E,F⟩=>?_))))
 exact wpAny_release ⟨d,D,E,F⟩
noncomputable def uR (te:TE) (g:TG):TS:=λD a H=>te a H λx b=>g x a b D.nx
def Bu (d:PE X e te)(f:PG X a g)(i:VL [a] e pos.line X.env=pure false:=by rfl)(hw:VM [a] e X.env=pure none:=by rfl)(j:(nS [a] X.env).map (·.2)=[T8 a X.env]:=by rfl):PS X (.Assign [a] e pos) (uR te g):=by
 intro b s c H D I h;refine wpAny_Assign_stores (aB (d b s c H _ I h) λv k ⟨x,l,m,n,o⟩=>?_) i hw
 rw[j];exact aB (f b k c l x v _ m n o) λ_ s2 q=>q
def DZ (c:X.N.Nodup)(d:X.N[i]? = some x)(hx:Loc X.env.scope x)(f:PE X e te)(g:r0 e (some (.Name x a)) pos.line X.env=pure false:=by rfl)(j:X.fn x=true\/X.env.scope.names.lookup x=some .local:=by first | exact .inl rfl | exact .inr rfl | assumption) :
  PS X (.Assign [.Name x a] e pos) (uR te (qB i)):=by
 intro b s k H D I h;refine wpAny_Assign_Name (aB (f b s k H _ I h) λv s1 ⟨y,l,m,n,o⟩=>?_) g
 exact Cm m c d hx n (λs2 p=>⟨_,l,p,o⟩) j
noncomputable def Dn (c:TT) (h:TS):TS:=λD a H=>∃W:Nat->St->Hp->Prop,(∃m,W m a H)/\∀m a H,W m a H ->
 c a H λb e=>if b=true then ∃N:St->Hp->Prop,(∀d f,N d f->∃g,g < m/\W g d f)/\h { D with nx:=N,ct:=N,bk:=D.nx } a e else D.nx a e
theorem KL (r:Vz (hR X.prog X.w) X.A X.env X.xe)(B:PT X c tc)(C:gn X body q):PS X (.While c body [] pos) (Dn tc q):=by
 intro d s E H D I h;obtain⟨W,⟨F,G⟩,turn⟩:=h;refine wpAny_While (codeAny_whileLoop (λn s'=>∃k t,Inv X d k t s'/\W n k t) ?_ F ⟨E,H,I,G⟩)
 rintro n J ⟨e,u,K,L⟩;refine Sq r (aB (B d J e u _ K (turn n e u L)) λb M ⟨x,y,i⟩=>?_)
 cases b with
 | true =>
  obtain⟨N,z,i⟩:=i;rw[if_pos rfl];refine Sq r (aB (C d M e x _ y i) λf s3 j=>?_)
  cases f with
  | next =>
   obtain⟨a,g,l,n3⟩:=j;obtain⟨m,o,p⟩:=z a g n3;exact⟨m,o,a,g,l,p⟩
  | cont =>
   obtain⟨a,g,l,n3⟩:=j;obtain⟨m,o,p⟩:=z a g n3;exact⟨m,o,a,g,l,p⟩
  | brk=>exact j
  | ret v=>exact j
 | false =>
  rw[if_neg Xl];exact Wm ⟨e,x,y,i⟩
end
structure It where
 go:Nat->Hp->Prop
 lS:Nat->Hp->V->Hp->Prop
 stop:Nat->Hp->Prop
noncomputable def hX (X:Cx) (a:List (cW×tm)) (H:Hp) (b:cW):Prop :=
 H b=none/\b≠X.env.locals/\b∉X.fs/\(b∈X.ex\/X.cY.heap.objs.size<=b)/\(∀x c,X.env.cells.lookup x=some c->c≠b)/\∀p∈X.pn++a,p.1≠b
def Inv.kB (I:Inv X a g H s)(d:s.heap.objs.size<=b)(h:f b=none):hX X a f b:=by
 refine⟨h,US (hQ I.lt d),I.Ou d,.inr (pA I.sz d),λx c e z=>?_,λp i z=>?_⟩
 ·obtain⟨v,q⟩:=I.cell x c e;exact absurd (hQ q.lt (by rw[z];exact d)) (qp _)
 ·exact absurd (hQ (fj (I.pin p i).1) (by rw[z];exact d)) (qp _)
structure Turn (P:hJ) (w:kq) (K:gj) (tg:gs) (J:It) (fp:List cW) (it:cW) (tn:Nat->m3->Prop):Prop where
 mem:it∈fp
 obj:∀i h,tn i h->∀b∈fp,∃o,h.get? b=some o/\∀v,o.data≠.cell v
 keep:∀i h h',tn i h->(∀b∈fp,∀o,h.get? b=some o->h'.get? b=some o)->tn i h'
 item:∀(X:Cx),X.prog=P->X.w=w->X.K=K->X.calm=true->∀(i:Nat) (pins:List (cW×tm)) (s:cA) (σ:St) (H:Hp) (E:b8->cA->Prop),Inv X pins σ H s->(∀b∈fp,hX X pins H b)->tn i s.heap->J.go i H ->
  hE (hR P w) X.A (Vc (.ref it)) (λr s1=>∃u,r=some u /\
   hE (hR P w) X.A (Vi tg (.ref it) u) (λ_ s2=>∃x H',Inv X pins σ H' s2/\RelV x u/\J.lS i H x H'/\tn (i + 1) s2.heap/\∀b∈fp,H' b=none) E s1) E s
 done:∀(X:Cx),X.prog=P->X.w=w->X.K=K->X.calm=true->∀(i:Nat) (pins:List (cW×tm)) (s:cA) (σ:St) (H:Hp) (E:b8->cA->Prop),Inv X pins σ H s->(∀b∈fp,hX X pins H b)->tn i s.heap->J.stop i H ->
  hE (hR P w) X.A (Vc (.ref it)) (λr s1=>r=none/\Inv X pins σ H s1) E s
 self:∀(A:pl) (i:Nat) (s:cA) (Q:b8->cA->Prop) (E:b8->cA->Prop),tn i s.heap->Q (.ref it) s->hE (hR P w) A (Ya (.ref it)) Q E s
noncomputable abbrev TI:=St->Hp->(It->Hp->Prop)->Prop
noncomputable def Cb (X:Cx) (a:List (cW×tm)) (h:St) (i:gs) (R:It->Hp->Prop) (d:b8) (e:cA):Prop :=
 ∃(it:cW) (f:List cW) (g:Nat->m3->Prop) (J:It) (c:Hp),d=.ref it/\Inv X a h c e/\Turn X.prog X.w X.K i J f it g/\g 0 e.heap/\(∀b∈f,hX X a c b)/\R J c
noncomputable def PI (X:Cx) (c iter:gs) (d:TI):Prop :=
 ∀(a:List (cW×tm)) (s:cA) (b:St) (H:Hp) (R:It->Hp->Prop),Inv X a b H s->d b H R ->
  hE (hR X.prog X.w) X.A (eval iter X.env) (λv e=>hE (hR X.prog X.w) X.A (Ya v) (Cb X a b c R) X.xe e) X.xe s
def mi (c:s.heap.get? it=some o)(d:o.cls=.type n)(hd:o.data=.fields vs)(e:["enumerate","zip","dict_itemiterator","dict_reverseitemiterator","odict_iterator","itertools.zip_longest","itertools.pairwise"].contains n=false)(a:Q () s):hE M A (Vi b (.ref it) u) Q E s:=by
  unfold Vi;cases b <;> first
    | exact eR a
    | (cases u <;> first
        | exact eR a
        | (refine bt (wpAny_load c ?_)
           rw[d,hd];show hE M A (if (["enumerate","zip","dict_itemiterator","dict_reverseitemiterator","odict_iterator","itertools.zip_longest","itertools.pairwise"].contains n && vs[0]? == some (Xp _))=true then _ else _) Q E s
           rw[if_neg (by intro h;rw[e,Wb] at h;cases h)]
           exact eR a))
noncomputable def A4 (K:gj) (a:cW):It :=
 ⟨λi H=>∃xs x,cb K H a xs/\xs[i]? = some x,λi H x b=>b=H/\∀xs,cb K H a xs->xs[i]? = some x,λi H=>∃xs,cb K H a xs/\xs.length<=i⟩
noncomputable def zq (K:gj) (a:cW):It :=
 ⟨λi H=>∃xs x,bb K H a xs/\xs[i]? = some x,λi H x b=>b=H/\∀xs,bb K H a xs->xs[i]? = some x,λi H=>∃xs,bb K H a xs/\xs.length<=i⟩
noncomputable def n9 (lo:Int) (n:Nat):It:=⟨λi _=>i < n,λi H x a=>a=H/\x=.int (lo + i),λi _=>n<=i⟩
def HY {P:hJ}{w:kq}{K:gj}{J:gs}(a it:cW):Turn P w K J (A4 K a) [it] it (λi h=>h.IsListIter it a i) where
 mem:=by simp
 obj:=λi h st b f=>by
  have e:b=it:=by simpa using f
  subst e;obtain⟨o,e,c,d⟩:=st;exact⟨o,e,λv z=>by rw[d] at z;cases z⟩
 keep:=λi h h' st k=>st.at λo e=>k it (by simp) o e
 item:=by
  intro X n hw q F i g s G H E I j st r;subst n hw q;obtain⟨xs,x,l,hx⟩:=r;obtain⟨its,t,p,L⟩:=I.list l;obtain⟨u,M,N⟩:=t.get hx;obtain⟨y,A,O,B,C,D⟩:=j it (by simp)
  refine wpAny_pyNext_list_item st p.isList (x:=u) (by simpa using M) λh' m Q=>?_
  have R:Inv X g G H { s with heap:=h' }:=I.turned (t':=s.toks) (λb o f e=>(Q.2 b f).trans e) y A B C D
  obtain⟨o,e,c,d⟩:=id m;exact⟨u,rfl,mi (s:={ s with heap:=h' }) e c d (by decide) ⟨x,H,R,N,⟨rfl,λys S=>by rw[I.Lj S l];exact hx⟩,m,λb f=>(j b f).1⟩⟩
 done:=by
  intro X n hw q F i g s G H E I j st r;subst n hw q;obtain⟨xs,l,hx⟩:=r;obtain⟨its,t,p,L⟩:=I.list l;obtain⟨y,A,O,B,C,D⟩:=j it (by simp)
  have hl:=t.length;exact wpAny_pyNext_list_end (I.ok.hd F) st p.isList (by simp;omega) λh' T=>⟨rfl,I.turned (t':=s.toks) (λb o f e=>T b o f e) y A B C D⟩
 self:=λ_ _ _ _ _ st h=>wpAny_pyIter_listiter st h
def EG {P:hJ}{w:kq}{K:gj}{J:gs}(a it:cW):Turn P w K J (zq K a) [it] it (λi h=>h.IsTupleIter it a i) where
 mem:=by simp
 obj:=λi h st b f=>by
  have e:b=it:=by simpa using f
  subst e;obtain⟨o,e,c,d⟩:=st;exact⟨o,e,λv z=>by rw[d] at z;cases z⟩
 keep:=λi h h' st k=>st.at λo e=>k it (by simp) o e
 item:=by
  intro X n hw q F i g s G H E I j st r;subst n hw q;obtain⟨xs,x,l,hx⟩:=r;obtain⟨its,t,p,L⟩:=I.tuple l;obtain⟨u,M,N⟩:=t.get hx;obtain⟨y,A,O,B,C,D⟩:=j it (by simp)
  refine wpAny_pyNext_tuple_item st (show s.heap.IsTuple a its.toArray from p) (x:=u) (by simpa using M) λh' m Q=>?_
  have R:Inv X g G H { s with heap:=h' }:=I.turned (t':=s.toks) (λb o f e=>(Q.2 b f).trans e) y A B C D
  obtain⟨o,e,c,d⟩:=id m;exact⟨u,rfl,mi (s:={ s with heap:=h' }) e c d (by decide) ⟨x,H,R,N,⟨rfl,λys S=>by rw[I.Mo S l];exact hx⟩,m,λb f=>(j b f).1⟩⟩
 done:=by
  intro X n hw q F i g s G H E I j st r;subst n hw q;obtain⟨xs,l,hx⟩:=r;obtain⟨its,t,p,L⟩:=I.tuple l;obtain⟨y,A,O,B,C,D⟩:=j it (by simp)
  have hl:=t.length;exact wpAny_pyNext_tuple_end (I.ok.hd F) st (show s.heap.IsTuple a its.toArray from p) (by simp;omega) λh' T=>⟨rfl,I.turned (t':=s.toks) (λb o f e=>T b o f e) y A B C D⟩
 self:=λ_ _ _ _ _ st h=>wpAny_pyIter_tupleiter st h
def E8 {P:hJ}{w:kq}{K:gj}{A:gs}(it:cW) (lo:Int) (n:Nat):Turn P w K A (n9 lo n) [it] it (λi h=>IsRangeIter h it (lo + (i:Nat) * 1) ((n:Int) - (i:Nat)) 1) where
 mem:=by simp
 obj:=λi h st b a=>by
  have e:b=it:=by simpa using a
  subst e;exact⟨_,st,λv z=>by
   have B:Data.fields _=Data.cell v:=z;cases B⟩
 keep:=λi h h' st k=>k it (by simp) _ st
 item:=by
  intro X g hw j l i c s y H E I d st m;subst g hw j;obtain⟨p,q,C,r,u,x⟩:=d it (by simp)
  have W:=Walks.range (prog:=X.prog) (w:=X.w) (I.ok.hd l) it lo 1 n;refine W.item i s _ _ m st λv h' tk D f F=>?_
  obtain⟨t,rfl⟩:=D;have G:Inv X c y H { s with heap:=h',toks:=tk }:=I.turned (λb o a e=>F b o (by simpa using a) e) p q r u x
  refine⟨_,rfl,mi (s:={ s with heap:=h',toks:=tk }) (n:="range_iterator") f rfl rfl (by decide) ⟨.int (lo + i),H,G,⟨t,?_⟩,⟨rfl,rfl⟩,f,λb a=>(d b a).1⟩⟩
  rw[Int.mul_one]
 done:=by
  intro X g hw j l i c s y H E I d st m;subst g hw j;obtain⟨p,q,C,r,u,x⟩:=d it (by simp)
  exact wpAny_pyNext_range_end (I.ok.hd l) st (by have:n<=i:=m;omega) λh' J=>⟨rfl,I.turned (t':=s.toks) (λb o a e=>J b o a e) p q r u x⟩
 self:=λ_ _ _ _ _ st h=>wpAny_pyIter_rangeiter st h
section
variable {X:Cx}{tg:gs}
noncomputable def KZ (K:gj) (c:TE):TI:=λd H R=>c d H λx b=>∃a,x=.ref a/\(∃xs,cb K b a xs)/\R (A4 K a) b
noncomputable def MC (K:gj) (c:TE):TI:=λd H R=>c d H λx b=>∃a,x=.ref a/\(∃xs,bb K b a xs)/\R (zq K a) b
def Ic (i:PE X l g):PI X tg l (KZ X.K g):=by
 intro f s j H R I h;refine aB (i f s j H _ I h) λv c ⟨x,k,d,m,n⟩=>?_
 obtain⟨a,e,⟨xs,r⟩,q⟩:=n;subst e;cases m;obtain⟨its,rv,p,hz⟩:=d.list r;refine To p.isList ?_;refine⟨c.heap.objs.size,[c.heap.objs.size],_,_,k,rfl,d.kept (t':=c.toks) λb o e=>el _ e,HY a _,⟨_,hB _ rfl,rfl,rfl⟩,λb t=>?_,q⟩
 have e:b=c.heap.objs.size:=by simpa using t
 subst e;exact d.kB (eS _) (d.ai.fresh (eS _))
def IZ (i:PE X l g):PI X tg l (MC X.K g):=by
 intro f s j H R I h;refine aB (i f s j H _ I h) λv c ⟨x,k,d,m,n⟩=>?_
 obtain⟨a,e,⟨xs,r⟩,q⟩:=n;subst e;cases m;obtain⟨its,rv,p,hz⟩:=d.tuple r;refine wpAny_pyIter_tuple (show c.heap.IsTuple a its.toArray from p) ?_
 refine⟨c.heap.objs.size,[c.heap.objs.size],_,_,k,rfl,d.kept (t':=c.toks) λb o e=>el _ e,EG a _,⟨_,hB _ rfl,rfl,rfl⟩,λb t=>?_,q⟩
 have e:b=c.heap.objs.size:=by simpa using t
 subst e;exact d.kB (eS _) (d.ai.fresh (eS _))
def Mr {c:List (cW×tm)}{d:St}{H:Hp}{s:cA}{R:It->Hp->Prop}{E:b8->cA->Prop}{lo a:Int}{t u v:Zp}{tk:Nat}(I:Inv X c d H s) (g:-(2 ^ 62)<=lo) (h:lo < 2 ^ 62) (i:-(2 ^ 62)<=a) (j:a < 2 ^ 62)
  (q:R (n9 lo (a - lo).toNat) H):hE (hR X.prog X.w) X.A (Ya (.ref s.heap.objs.size)) (Cb X c d tg R) E { s with heap:=s.heap.push { cls:=.type "range",data:=.fields #[.int lo t,.int a u,.int 1 v] },toks:=tk }:=by
 refine wpAny_pyIter_range (IsRange.new ..) (small_one g h i j) ?_;have f:Inv X c d H { s with heap:=s.heap.push { cls:=.type "range",data:=.fields #[.int lo t,.int a u,.int 1 v] },toks:=tk }:=I.kept λb o e=>el _ e
 refine⟨(s.heap.push { cls:=.type "range",data:=.fields #[.int lo t,.int a u,.int 1 v] }).objs.size,[(s.heap.push { cls:=.type "range",data:=.fields #[.int lo t,.int a u,.int 1 v] }).objs.size],_,_,H,rfl,
  f.kept (t':=tk) λb o e=>el _ e,E8 _ lo (a - lo).toNat,?_,λb k=>?_,q⟩
 ·have l:lo + ((0:Nat):Int) * 1=lo:=by simp
  have m:(((a - lo).toNat:Nat):Int) - ((0:Nat):Int)=YP lo a 1:=by rw[rangeSize_one];split <;> omega
  show IsRangeIter _ _ (lo + ((0:Nat):Int) * 1) ((((a - lo).toNat:Nat):Int) - ((0:Nat):Int)) 1;rw[l,m];exact hB _ rfl
 ·have e:b=(s.heap.push { cls:=.type "range",data:=.fields #[.int lo t,.int a u,.int 1 v] }).objs.size:=by simpa using k
  subst e;exact f.kB (eS _) (f.ai.fresh (eS _))
noncomputable def lX (a:TA):TI:=λb H R=>a b H λvs c=>∃j:Int,vs=[.int j]/\-(2 ^ 62)<=j/\j < 2 ^ 62/\R (n9 0 j.toNat) c
theorem EC (f:Gl X "range")(g:X.mg "range"=none)(i:PA X [a] d)(k:ph [a] X.env=[(false,eval a X.env)]:=by rfl):PI X tg (.Call (.Name "range" p) [a] [] pos) (lX d):=by
 intro b s l H R I h;refine Call_ (nT I f g boot_range (TR (aB (i pos b s l H _ I h) λus s1 ⟨vs,H1,m,n,c⟩=>?_) k rfl))
 obtain⟨j,e,c,o,q⟩:=c;subst e;cases n with
 | cons r u =>
  cases u;obtain⟨t,rfl⟩:=r;exact call_range_1 (Mr m (by omega) (by omega) c o (by simpa using q))
noncomputable def JE (f:TI) (g:TG) (h:TS):TS:=λD a H=>f a H λJ j=>∃W:Nat->Nat->St->Hp->Prop,(∃m,W 0 m a j)/\∀i m a H,W i m a H ->
 (J.stop i H/\D.nx a H)\/(J.go i H/\∃N:St->Hp->Prop,(∀c b,N c b->∃d,d < m/\W (i + 1) d c b)/\∀x b,J.lS i H x b->g x a b λe k=>h { D with nx:=N,ct:=N,bk:=D.nx } e k)
noncomputable def oH (a:List cW) (h:m3):List (cW×tm):=a.filterMap λb=>(h.get? b).map λo=>(b,o)
def sk (c:b∈a)(e:h.get? b=some o):(b,o)∈oH a h:=Ui.mpr ⟨b,c,by rw[e];rfl⟩
theorem MF (c:p∈oH a h):p.1∈a/\h.get? p.1=some p.2:=by
 obtain⟨b,d,e⟩:=Ui.mp c;cases q:h.get? b with
 | none=>rw[q] at e;cases e
 | some o =>
  rw[q] at e;have f:(b,o)=p:=Option.some.inj e;subst f;exact⟨d,q⟩
def Inv.pinned (I:Inv X a f H s)(i:∀b∈c,hX X a H b)(j:∀b∈c,∃o,s.heap.get? b=some o/\∀v,o.data≠.cell v):Inv X (a++oH c s.heap) f H s :=
 I.Bm λp k=>(ee.mp k).elim (λz=>I.pin p (lr _ z)) λz=>by
  obtain⟨g,e⟩:=MF z;obtain⟨l,m,n,_⟩:=i p.1 g;obtain⟨o,h,d⟩:=j p.1 g;rw[e] at h;cases h;exact⟨e,l,m,n,d⟩
def Inv.rC (I:Inv X (a++c) b H s):Inv X a b H s:=I.Bm λp d=>I.pin p (lr _ (WU _ d))
def Nj (B:Vz (hR X.prog X.w) X.A X.env X.xe)(R:X.calm=true)(hi:PI X tg iter P)(hg:PG X tg g)(j:gn X body Q)(hs:∀x,n5 iter X.env x=pure x:=by intro _;rfl):PS X (.For tg iter body [] pos) (JE P g Q):=by
 intro c s S H D I h;refine wpAny_For (aB (hi c s S H _ I h) λv s1 h1=>aB h1 λitv s2 h2=>?_) hs
 obtain⟨it,C,U,J,H2,e,I2,T,V,Y,W,⟨m0,w0⟩,turn⟩:=h2;subst e;have z:∀{p:Hp},(∀b∈C,p b=none)->∀b∈C,hX X c p b:=λhn b j=>⟨hn b j,(Y b j).2⟩
 refine codeAny_forLoop_any (λn s'=>∃i q p,Inv X c q p s'/\U i s'.heap/\(∀b∈C,p b=none)/\W i n q p) ?_ m0 ⟨0,S,H2,I2,V,λb j=>(Y b j).1,w0⟩
 rintro n Z ⟨i,t,G,I3,K,L,w3⟩
 rcases turn i n t G w3 with⟨stop,qn⟩ | ⟨go,N,hN,step⟩
 ·refine Sq B (aB (T.done X rfl rfl rfl R i c Z t G X.xe I3 (z L) K stop) λr s4 ⟨M,I4⟩=>?_)
  subst M;exact Wm ⟨t,G,I4,qn⟩
 ·refine Sq B (aB (T.item X rfl rfl rfl R i c Z t G X.xe I3 (z L) K go) λr s4 ⟨u,M,h4⟩=>?_)
  subst M;refine Sq B (aB h4 λ_ s5 ⟨x,H5,I5,r5,y5,E,O5⟩=>?_)
  have O6:=I5.pinned (z O5) (T.obj _ _ E);refine Sq B (aB (hg _ s5 t H5 x u _ O6 r5 (step x H5 y5)) λ_ s6 ⟨O7,H6,I6,q6⟩=>?_)
  refine Sq B (aB (j _ s6 O7 H6 _ I6 q6) λf O y=>?_)
  have again:∀{a:St}{k:Hp},Inv X (c++oH C s5.heap) a k O->N a k->∃m,m < n/\∃i q p,Inv X c q p O/\U i O.heap/\(∀b∈C,p b=none)/\W i m q p:=λ{a k} l F=>by
   obtain⟨m',hm,w7⟩:=hN a k F;refine⟨m',hm,i + 1,a,k,l.rC,T.keep _ _ _ E λb j o e=>(l.pin (b,o) (lr _ (lr _ (sk j e)))).1,λb j=>?_,w7⟩
   obtain⟨o,e,d⟩:=T.obj _ _ E b j;exact (l.pin (b,o) (lr _ (lr _ (sk j e)))).2.1
  cases f with
  | next=>obtain⟨a,k,l,F⟩:=y;exact again l F
  | cont=>obtain⟨a,k,l,F⟩:=y;exact again l F
  | brk=>obtain⟨a,k,l,y⟩:=y;exact⟨a,k,l.rC,y⟩
  | ret v=>obtain⟨x7,a,k,l,r7,y⟩:=y;exact⟨x7,a,k,l.rC,r7,y⟩
end
noncomputable abbrev R2:=V->V->Hp->VK->Prop
noncomputable def aI (X:Cx) (f:b8->b8->Zb b8) (r:R2):Prop :=
 ∀(a:List (cW×tm)) (s:cA) (b:St) (H:Hp) (x y:V) (v u:b8) (Q:VK),Inv X a b H s->RelV x v->RelV y u->r x y H Q ->
  hE (hR X.prog X.w) X.A (f v u) (EP X a b Q) X.xe s
noncomputable def vF (X:Cx) (f:b8->Zb b8) (r:V->Hp->VK->Prop):Prop :=
 ∀(a:List (cW×tm)) (s:cA) (b:St) (H:Hp) (x:V) (v:b8) (Q:VK),Inv X a b H s->RelV x v->r x H Q ->
  hE (hR X.prog X.w) X.A (f v) (EP X a b Q) X.xe s
noncomputable def bO (X:Cx) (f:b8) (r:List V->Hp->VK->Prop):Prop :=
 ∀(a:List (cW×tm)) (s:cA) (b:St) (H:Hp) (xs:List V) (c:List b8) (Q:VK),Inv X a b H s->aC xs c->r xs H Q ->
  hE (hR X.prog X.w) X.A (call f c) (EP X a b Q) X.xe s
noncomputable def Fj (X:Cx) (r:V->Hp->(Bool->Hp->Prop)->Prop):Prop :=
 ∀(a:List (cW×tm)) (s:cA) (b:St) (H:Hp) (x:V) (v:b8) (Q:Bool->Hp->Prop),Inv X a b H s->RelV x v->r x H Q ->
  hE (hR X.prog X.w) X.A (Y8 v) (TP X a b Q) X.xe s
noncomputable def mH (r:R2) (b c:TE):TE:=λa H Q=>b a H λx d=>c a d λy e=>r x y e Q
noncomputable def Gk (r:V->Hp->VK->Prop) (a:TE):TE:=λb H Q=>a b H λx c=>r x c Q
noncomputable def rI (C:Int->Int->Prop) (g:Int->Int->V):R2:=λx y H Q=>∃i j,x=.int i/\y=.int j/\C i j/\Q (g i j) H
noncomputable def gx (g:Int->Int->V):R2:=λx y H Q=>∃i j,x=.int i/\y=.int j/\Q (g i j) H
noncomputable def rU (g:Int->V):V->Hp->VK->Prop:=λx H Q=>∃i,x=.int i/\Q (g i) H
section
variable {X:Cx}{a b c:gs}{ta tb tc:TE}{pos:qe}
def vg (m:PE X a ta) (n:PE X b tb){R:V->V->Hp->Prop}(I:Inv X d e H s)(h:ta e H λx j=>tb e j λy g=>R x y g){Q:b8->cA->Prop}{f:b8->b8->Zb b8}(o:∀v u i x y g,Inv X d e g i->RelV x v->RelV y u->R x y g->hE (hR X.prog X.w) X.A (f v u) Q X.xe i) :
  hE (hR X.prog X.w) X.A (eval a X.env) (λv k=>hE (hR X.prog X.w) X.A (eval b X.env) (λu l=>hE (hR X.prog X.w) X.A (f v u) Q X.xe l) X.xe k) X.xe s:=by
 refine aB (m d s e H _ I h) λv p ⟨x,j,q,r,t⟩=>?_
 refine aB (n d p e j _ q t) λu i ⟨y,g,z,B,C⟩=>?_
 exact o v u i x y g z r B C
def FO (e:aI X (Tg op) r)(f:PE X a ta)(g:PE X b tb):PE X (.BinOp a op b pos) (mH r ta tb):=by
 intro d s i H Q I h;exact wpAny_BinOp (vg f g I h λv u j x y k l rx m q=>e d j i k x y v u Q l rx m q)
def Ex (f:vF X (unaryOp op) r)(g:PE X a ta):PE X (.UnaryOp op a pos) (Gk r ta):=by
 intro d s e H Q I h;exact UnaryOp_ (aB (g d s e H _ I h) λv i ⟨x,j,k,l,m⟩=>f d i e j x v Q k l m)
def rH {f:b8->b8->Zb b8}{C:Int->Int->Prop}{g:Int->Int->Int}
  (YI:∀(i j:Int) (t u:Zp) (s:cA) (Q:b8->cA->Prop) (E:b8->cA->Prop),C i j->Q (.int (g i j) s.toks) { s with toks:=s.toks + 1 }->hE (hR X.prog X.w) X.A (f (.int i t) (.int j u)) Q E s) :
  aI X f (rI C λi j=>.int (g i j)):=by
 intro pins s σ H x y v u Q I rx d h;obtain⟨i,j,rfl,rfl,e,q⟩:=h;obtain⟨t,rfl⟩:=rx;obtain⟨t',rfl⟩:=d;exact YI i j t t' s _ _ e ⟨.int (g i j),H,I.tok _,⟨_,rfl⟩,q⟩
def xI {f:b8->b8->Zb b8}{g:Int->Int->Int}
  (YI:∀(i j:Int) (t u:Zp) (s:cA) (Q:b8->cA->Prop) (E:b8->cA->Prop),Q (.int (g i j) s.toks) { s with toks:=s.toks + 1 }->hE (hR X.prog X.w) X.A (f (.int i t) (.int j u)) Q E s) :
  aI X f (gx λi j=>.int (g i j)):=by
 intro pins s σ H x y v u Q I rx d h;obtain⟨i,j,rfl,rfl,q⟩:=h;obtain⟨t,rfl⟩:=rx;obtain⟨t',rfl⟩:=d;exact YI i j t t' s _ _ ⟨.int (g i j),H,I.tok _,⟨_,rfl⟩,q⟩
def qY {f:b8->b8->Zb b8}{g:Int->Int->Bool}
  (YI:∀(i j:Int) (t u:Zp) (s:cA) (Q:b8->cA->Prop) (E:b8->cA->Prop),Q (.bool (g i j)) s->hE (hR X.prog X.w) X.A (f (.int i t) (.int j u)) Q E s) :
  aI X f (gx λi j=>.bl (g i j)):=by
 intro pins s σ H x y v u Q I rx d h;obtain⟨i,j,rfl,rfl,q⟩:=h;obtain⟨t,rfl⟩:=rx;obtain⟨t',rfl⟩:=d;exact YI i j t t' s _ _ ⟨.bl (g i j),H,I,rfl,q⟩
noncomputable def Il (i j:Int):Prop:=0<=j/\j<=1000000/\i.natAbs < 2 ^ 64
def Eg:aI X (Tg .Add) (gx λi j=>.int (i + j)):=xI λ_ _ _ _ _ _ _ q=>add_int q
def LG:aI X (Tg .Sub) (gx λi j=>.int (i - j)):=xI λ_ _ _ _ _ _ _ q=>sub_int q
def Dg:aI X (Tg .Mod) (rI (λ_ j=>0 < j) λi j=>.int (i % j)):=rH λi j _ _ _ _ _ d q=>by
 have h1:(0:Int) < j:=d;exact mod_int' (by omega) (by rw[Int.fmod_eq_emod_of_nonneg i (by omega)];exact q)
def OV:aI X (Tg .Pow) (rI Il λi j=>.int (i ^ j.toNat)):=rH λ_ _ _ _ _ _ _ d q=>pow_int_small d.1 d.2.1 d.2.2 q
def FR {f:b8->Zb b8}{g:Int->Int}
  (YI:∀(i:Int) (t:Zp) (s:cA) (Q:b8->cA->Prop) (E:b8->cA->Prop),Q (.int (g i) s.toks) { s with toks:=s.toks + 1 }->hE (hR X.prog X.w) X.A (f (.int i t)) Q E s) :
  vF X f (rU λi=>.int (g i)):=by
 intro pins s σ H x v Q I rx h;obtain⟨i,rfl,q⟩:=h;obtain⟨t,rfl⟩:=rx;exact YI i t s _ _ ⟨.int (g i),H,I.tok _,⟨_,rfl⟩,q⟩
def L0:vF X (unaryOp .USub) (rU λi=>.int (-i)):=FR λ_ _ _ _ _ q=>neg_int q
def CY (I:Inv X d f H s)(q:Q (.bl k) H)(e:k=g):EP X d f Q (.bool g) s:=by
 subst e;exact⟨.bl k,H,I,rfl,q⟩
def w4:aI X (l4 .Lt) (gx λi j=>.bl (decide (i < j))):=qY λ_ _ _ _ _ _ _ q=>lt_int q
def EV:aI X (l4 .LtE) (gx λi j=>.bl (decide (i<=j))):=qY λ_ _ _ _ _ _ _ q=>le_int q
def CN:aI X (l4 .Gt) (gx λi j=>.bl (decide (j < i))):=qY λ_ _ _ _ _ _ _ q=>gt_int q
def EN:aI X (l4 .GtE) (gx λi j=>.bl (decide (j<=i))):=qY λ_ _ _ _ _ _ _ q=>ge_int q
def Gf:aI X (l4 .Lt) (λx y H Q=>∃i j,x=.str i/\y=.str j/\Q (.bl (decide (i.cps.toList < j.cps.toList))) H):=by
 intro pins s σ H x y v u Q I rx d h;obtain⟨i,j,rfl,rfl,q⟩:=h;obtain⟨t,rfl⟩:=rx;obtain⟨t',rfl⟩:=d;exact lt_str (CY I q rfl)
def J8:aI X (l4 .In) (λx y H Q=>∃i j,x=.str i/\y=.str j/\Q (.bl (!(VO j i 0 j.length 1).isEmpty)) H):=by
 intro pins s σ H x y v u Q I rx d h;obtain⟨i,j,rfl,rfl,q⟩:=h;obtain⟨t,rfl⟩:=rx;obtain⟨t',rfl⟩:=d;exact in_str (CY I q rfl)
def aI.or (h:aI X f r)(h':aI X f e):aI X f (λx y H Q=>r x y H Q\/e x y H Q):=by
 intro d s g H x y v u Q I rx i q
 rcases q with q | q
 ·exact h d s g H x y v u Q I rx i q
 ·exact h' d s g H x y v u Q I rx i q
def jd (b)(h:op≠.In:=by decide)(d:op≠.NotIn:=by decide):r3 op b=false:=by
 have e:(op == CmpOp.In)=false:=by cases op <;> first | rfl | exact absurd rfl h
 have f:(op == CmpOp.NotIn)=false:=by cases op <;> first | rfl | exact absurd rfl d
 cases b <;> simp[r3,e,f]
def BZ (e:aI X (l4 op) r)(f:PE X a ta)(g:PE X b tb)(i:r3 op b=false):PE X (.Compare a [op] [b] pos) (mH r ta tb):=by
 intro d s j H Q I h;exact wpAny_Compare1 (vg f g I h λv u k x y l m rx n q=>e d k j l x y v u Q m rx n q) i
noncomputable def vP (t:TE):TT:=λd H Q=>t d H λx e=>∃k,x=.bl k/\Q k e
def xg (g:aI X (l4 op) r)(i:PE X a ta)(j:PE X b tb)(l:r3 op b=false):PT X (.Compare a [op] [b] pos) (vP (mH r ta tb)):=by
 intro d s f H Q I h;refine wpAny_isTrue_Compare1 (aB (i d s f H _ I h) λv m ⟨x,n,o,p,q⟩=>aB (j d m f n _ o q) λu t ⟨y,w,A,B,C⟩ =>
  aB (g d t f w x y v u _ A p B C) λc s3 ⟨z,D,E,F,k,e,G⟩=>?_) l
 subst e;cases F;exact y0 ⟨D,E,G⟩
noncomputable def v8 (r f:R2) (ta tb tc:TE):TE:=λd H Q=>ta d H λx g=>tb d g λy h=>r x y h λz e=>∃k,z=.bl k /\
 (if k=true then tc d e λi j=>f y i j Q else Q (.bl false) e)
theorem Dt (q:aI X (l4 op) r)(l:aI X (l4 g) j)(t:PE X a ta)(w:PE X b tb)(A:PE X c tc)(B:Vx [op,g] [b,c]=false:=by with_unfolding_all rfl):PE X (.Compare a [op,g] [b,c] pos) (v8 r j ta tb tc):=by
 intro f s i H Q I h;refine Compare_chain (aB (t f s i H _ I h) λv C ⟨x,D,E,F,G⟩=>chain_link (aB (w f C i D _ E G) λu J ⟨y,K,L,m,M⟩ =>
  aB (q f J i K x y v u _ L F m M) λd N ⟨z,n,o,O,k,e,p⟩=>?_)) B
 subst e;cases O;refine y0 ?_;cases k with
 | false=>exact ite_ff ⟨.bl false,n,o,rfl,p⟩
 | true=>exact ite_tt (chain_last (aB (A f N i n _ o p) λP R ⟨S,T,U,V,W⟩=>l f R i T y S u P Q U m V W))
theorem GP (q:aI X (l4 op) r)(l:aI X (l4 g) j)(t:PE X a ta)(w:PE X b tb)(A:PE X c tc)(B:Vx [op,g] [b,c]=false:=by with_unfolding_all rfl):PT X (.Compare a [op,g] [b,c] pos) (vP (v8 r j ta tb tc)):=by
 intro f s i H Q I h;refine isTrue_chain (aB (t f s i H _ I h) λv C ⟨x,D,E,F,G⟩=>test_link (aB (w f C i D _ E G) λu J ⟨y,K,L,m,M⟩ =>
  aB (q f J i K x y v u _ L F m M) λd N ⟨z,n,o,O,k,e,p⟩=>?_)) B
 subst e;cases O;refine y0 ?_;cases k with
 | false =>
  obtain⟨k',P,R⟩:=p;cases P;exact ite_ff ⟨n,o,R⟩
 | true =>
  refine ite_tt (test_last (aB (A f N i n _ o p) λS T ⟨U,V,W,Y,Z⟩=>aB (l f T i V y U u S _ W m Y Z) λd' s5 ⟨z2,H5,I5,r5,k2,e2,q5⟩=>?_))
  subst e2;cases r5;exact y0 ⟨H5,I5,q5⟩
noncomputable def pE (K:gj) (x:V) (H:Hp) (k:Bool):Prop :=
 match x with
 | .aK=>k=false
 | .bl b=>k=b
 | .int i=>k=(i != 0)
 | .str y=>y.length<=bg/\k=((y.length:Int) != 0)
 | .oU y=>y.size<=bg/\k=((y.size:Int) != 0)
 | .ref p=>(∃xs,cb K H p xs/\k=!xs.isEmpty)\/(∃xs,bb K H p xs/\k=!xs.isEmpty)\/∃kvs,H p=some (.dK kvs)/\k=!kvs.isEmpty
 | _=>False
def Mj (r:KV kvs vs):(!vs.isEmpty)=!kvs.isEmpty:=by
 cases r <;> rfl
def AK (r:aC xs its):(!its.toArray.isEmpty)=!xs.isEmpty:=by
 cases r <;> simp
def jt:(bg:Nat) < 2 ^ 63:=by rw[qo];decide
theorem vH:Fj X (λx H Q=>∃k,pE X.K x H k/\Q k H):=by
 intro pins s σ H x v Q I rx h;obtain⟨k,e,q⟩:=h;have hl:=jt;have hs:bg=16777216:=qo;cases x with
 | aK =>
  cases rx;have d:k=false:=e;subst d;exact truthy_none ⟨H,I,q⟩
 | bl b =>
  cases rx;have d:k=b:=e;subst d;exact y0 ⟨H,I,q⟩
 | int i =>
  obtain⟨t,rfl⟩:=rx;have d:k=(i != 0):=e;subst d;exact PySem.P.truthy_int ⟨H,I,q⟩
 | str y =>
  obtain⟨t,rfl⟩:=rx;obtain⟨l,d⟩:y.length<=bg/\k=((y.length:Int) != 0):=e;subst d;exact PySem.P.truthy_str (by omega) ⟨H,I.tok _,q⟩
 | oU y =>
  obtain⟨t,rfl⟩:=rx;obtain⟨l,d⟩:y.size<=bg/\k=((y.size:Int) != 0):=e;subst d;exact W.truthy_bytes (by omega) ⟨H,I.tok _,q⟩
 | ref p =>
  cases rx;have d:(∃xs,cb X.K H p xs/\k=!xs.isEmpty)\/(∃xs,bb X.K H p xs/\k=!xs.isEmpty)\/∃kvs,H p=some (.dK kvs)/\k=!kvs.isEmpty:=e
  rcases d with⟨xs,hx,d⟩ | ⟨xs,hx,d⟩ | ⟨kvs,hx,d⟩
  ·subst d;obtain⟨its,r,g,j⟩:=I.list hx;have f:=r.length;exact wpAny_truthy_list g.isList (by simp only[e7];omega) ⟨H,I.tok _,by rw[AK r];exact q⟩
  ·subst d;obtain⟨its,r,g,j⟩:=I.tuple hx;have f:=r.length;exact truthy_tuple g (by simp only[e7];omega) ⟨H,I.tok _,by rw[AK r];exact q⟩
  ·subst d;obtain⟨j,n,vs,r,m⟩:kvs.length<=bg/\(p == zc)=false/\∃vs,KV kvs vs/\s.heap.DictOf (cG X.prog X.w) p vs:=I.ai p _ hx;have f:kvs.length=vs.length:=Paired.length r;exact wpAny_truthy_dict n m (by omega) ⟨H,I.tok _,by rw[Mj r];exact q⟩
 | _=>exact (show False from e).elim
def NZ (i:PE X a ta) (j:∀d,Xr a X.env d=(do let v <- d;Xn a.pos;Ub [v] (Y8 v))) :
  PT X a (λf H Q=>ta f H λx g=>∃k,pE X.K x g k/\Q k g):=by
 intro e s f H Q I h;exact isTrue_plain (aB (i e s f H _ I h) λv l ⟨x,m,n,o,p⟩=>vH e l f m x v Q n o p) (j _)
def OJ:aI X (Tg .Add) (λx y H Q=>∃i j,x=.str i/\y=.str j/\i.length + j.length<=bg/\Q (.str (i++j)) H):=by
 intro pins s σ H x y v u Q I rx d h;obtain⟨i,j,rfl,rfl,e,q⟩:=h;obtain⟨t,rfl⟩:=rx;obtain⟨t',rfl⟩:=d;exact add_str (λt' tk=>⟨.str (i++j),H,I.tok _,⟨_,rfl⟩,q⟩) e
theorem vals1 (r:aC [x] d):∃u,d=[u]/\RelV x u:=by
 cases r with
 | cons e f=>cases f;exact⟨_,rfl,e⟩
def FI:bO X (.type "int") (λxs H Q=>(∃i,xs=[.int i]/\Q (.int i) H)\/∃k,xs=[.bl k]/\Q (.int (if k then 1 else 0)) H):=by
 intro pins s σ H xs us Q I r h
 rcases h with⟨i,rfl,q⟩ | ⟨k,rfl,q⟩
 ·obtain⟨u,rfl,t,rfl⟩:=vals1 r;exact call_int_int ⟨.int i,H,I,⟨_,rfl⟩,q⟩
 ·obtain⟨u,rfl,d⟩:=vals1 r;cases d;exact call_int_bool ⟨.int (if k then 1 else 0),H,I.tok _,⟨_,rfl⟩,q⟩
def HE:bO X (.type "str") (λxs H Q=>∃i,xs=[.int i]/\i.natAbs.log2 < 1920/\Q (.str (toString i)) H):=by
 intro pins s σ H xs us Q I r h;obtain⟨i,rfl,d,q⟩:=h;obtain⟨u,rfl,t,rfl⟩:=vals1 r;exact PySem.P.str_of_int d ⟨.str _,H,I.tok _,⟨_,rfl⟩,q⟩
end
theorem iM.some_of (r:iM (some v) o):∃u,o=some u/\RelV v u:=by
 cases o with
 | none=>exact (show False from r).elim
 | some u=>exact⟨u,rfl,r⟩
structure cN (k:Nat) (A:pl):Prop where
 hd:A.handled=none
 dp:A.depth + 3 * k + 5 < recursionLimit
 un:A.units + 16 * k + 200 < vi
def cN.mono (r:cN k A)(h:j<=k):cN j A:=⟨r.hd,by have:=r.dp;omega,by have:=r.un;omega⟩
theorem cN.deeper (r:cN (k + 1) A)(env:WK):cN k (A.deeper env) :=
 ⟨r.hd,by have:=r.dp;show A.depth + 1 + 3 * k + 5 < _;omega,by have:=r.un;show A.units + 3 + 16 * k + 200 < _;omega⟩
theorem cN.depth (r:cN k A):A.depth < recursionLimit:=by have:=r.dp;omega
noncomputable def HR:TA:=λ_ H Q=>Q [] H
noncomputable def HH (b:TE) (tr:TA):TA:=λa H Q=>b a H λx c=>tr a c λxs d=>Q (x::xs) d
section
variable {X:Cx}{e:gs}{es:List gs}{te:TE}{t:TA}{pos:qe}
def nD:PA X [] HR:=λ_ _ _ _ H Q I h=>Calls.spliced_nil ⟨[],H,I,.nil,h⟩
def jB (c:PE X e te) (d:PA X es t) (f:bK X e es:=by rfl):PA X (e::es) (HH te t):=by
 intro pos a s b H Q I h;rw[f];show hE _ _ (spliced ((false,eval e X.env)::T3 pos (ph es X.env))) _ _ s;refine Calls.spliced_cons (aB (c a s b H _ I h) λu g ⟨x,i,j,k,l⟩=>?_)
 exact aB (d pos a g b i _ j l) λus s2 ⟨xs,m,n,o,p⟩=>⟨x::xs,m,n,.cons k o,p⟩
noncomputable def DJ (t:TA):TE:=λb H Q=>t b H λxs a=>xs.length<=bg/\∀p,a p=none->Q (.ref p) (upd a p (.tup xs))
noncomputable def HS (t:TA):TE:=λb H Q=>t b H λxs a=>xs.length<=bg/\∀p,a p=none->Q (.ref p) (upd a p (.lst xs))
def zP {g}(h:PA X es t):PE X (.Tuple es g pos) (DJ t):=by
 intro c s i H Q I j;refine wpAny_Tuple_spliced (aB (h pos c s i H _ I j) λk a ⟨xs,d,f,r,z,q⟩=>⟨by rw[<- r.length];exact z,?_⟩)
 have l:d a.heap.objs.size=none:=f.ai.fresh (eS _);refine⟨.ref a.heap.objs.size,upd d a.heap.objs.size (.tup xs),f.laid (t':=a.toks) (λb u e=>el _ e) (eS _) ?_,rfl,q _ l⟩
 exact⟨z,k,r,⟨_,hB _ rfl,rfl,_,rfl⟩⟩
def Dj (h:PA X es t):PE X (.List es pos) (HS t):=by
 intro c s g H Q I i;refine wpAny_List_spliced (aB (h pos c s g H _ I i) λj a ⟨xs,d,f,r,z,q⟩=>⟨by rw[<- r.length];exact z,?_⟩)
 have k:d a.heap.objs.size=none:=f.ai.fresh (eS _);refine⟨.ref a.heap.objs.size,upd d a.heap.objs.size (.lst xs),f.laid (t':=a.toks) (λb u e=>el _ e) (eS _) ?_,rfl,q _ k⟩
 exact⟨z,j,0,r,hB _ rfl⟩
end
noncomputable abbrev Sp:=List V->Hp->VK->XK->Prop
noncomputable abbrev gO:=List WK->Hp->cA->XK->b8->cA->Prop
structure rE (P:hJ) (w:kq) (K:gj) (mg:eT->Option b8) (base:m3) (A:pl) (outer:List WK) (s:cA) (H:Hp):Prop where
 frames:A.frames=some outer
 mod:Mod K mg base
 bs:∀b o,base.get? b=some o->s.heap.get? b=some o/\H b=none
 jQ:base.objs.size<=s.heap.objs.size
 iB:s.heap.FunFrames base outer
 mC:∀b∈gU outer,H b=none
 ai:bS P w H s.heap
 bare:Vg s.gens
noncomputable def CE (outer:List WK) (P:hJ) (w:kq) (H:Hp) (s:cA) (Q:VK) (u:b8) (s':cA):Prop :=
 ∃v a,s'.os=s.os/\Vg s'.gens/\Un (gU outer) [] H a s.heap s'.heap/\bS P w a s'.heap/\RelV v u/\Q v a
noncomputable def CR (CX:gO) (outer:List WK) (P:hJ) (w:kq) (H:Hp) (s:cA) (Q:VK) (E:XK) (r:Yh) (s':cA):Prop :=
 match r with
 | .ok (.ret u)=>CE outer P w H s Q u s'
 | .ok _=>False
 | .error e=>CX outer H s E e s'
structure aV (P:hJ) (w:kq) (K:gj) (mg:eT->Option b8) (base:m3) (CX:gO) (k:Nat) (f:cW) (fd:hI) (ps:List eT) (sp:Sp):Prop where
 len:∀vs H Q E,sp vs H Q E->vs.length=ps.length
 run:∀(A:pl) (outer:List WK) (s:cA) (H:Hp) (args:Args) (us:List b8) (vs:List V) (Q:VK) (E:XK),cN k A->rE P w K mg base A outer s H->YA s fd args (ps.zip us)->aC vs us->sp vs H Q E ->
  Ve (hR P w) A (.call (.ref f) args) (CR CX outer P w H s Q E) s
def aV.imp {P:hJ}{w:kq}{K:gj}{mg:eT->Option b8}{base:m3}{CX:gO}{k:Nat}{f:cW}{b:hI}{c:List eT}{sp a:Sp}(F:aV P w K mg base CX k f b c sp)
  (h:∀vs H Q E,a vs H Q E->sp vs H Q E):aV P w K mg base CX k f b c a :=
 ⟨λvs H Q E q=>F.len vs H Q E (h _ _ _ _ q),λA outer s H args d vs Q E e g i j l=>F.run A outer s H args d vs Q E e g i j (h _ _ _ _ l)⟩
section
variable {X:Cx}{pins:List (cW×tm)}{σ:St}{H:Hp}{s s':cA}
def Inv.Ml (I:Inv X pins σ H s):rE X.prog X.w X.K X.mg X.base X.A X.stack s H :=
 ⟨I.ok.frames,I.ok.mod,I.bs,pA I.ok.jQ I.sz,I.stack,I.A5,I.ai,I.bare⟩
def Inv.after (I:Inv X pins σ H s)(h:CE X.stack X.prog X.w H s Q u s'):EP X pins σ Q u s':=by
 obtain⟨v,c,os,bare,un,ai,r,q⟩:=h;obtain⟨hh,g,d,t,a⟩:=s';obtain rfl:a=s.os:=os;exact⟨v,c,I.call (h':=hh) (g':=g) (d':=d) (t':=t) (ch:=[]) un ai bare (λb z=>absurd z (by simp)),r,q⟩
end
noncomputable def Nk (sp:Sp) (a:List V) (E:XK) (t:TA):TE:=λb H Q=>t b H λvs c=>sp (vs++a) c Q E
noncomputable def Binds (K:gj) (c:hI) (b:List eT) (ds:List b8):Prop :=
 ∀(s:cA) (a:List b8),K.In s.heap->(a++ds).length=b.length->YA s c ⟨a,[]⟩ (b.zip (a++ds))
def Binds.all {K:gj}{c:hI}{b:List eT}(h:∀a:List b8,a.length=b.length->bindArgs c ⟨a,[]⟩=pure (b.zip a)):Binds K c b []:=λs a _ d=>by
 rw[xr] at d ⊢;exact .of_eq (h a d)
noncomputable def rX (CX:gO) (X:Cx) (E:XK):Prop:=∀(a:List (cW×tm)) (b:St) (H:Hp) (s:cA) (e:b8) (s':cA),Inv X a b H s->CX X.stack H s E e s'->X.xe e s'
section
variable {X:Cx}{CX:gO}{k:Nat}{f C:cW}{fd:hI}{ps:List eT}{sp:Sp}{dvs:List V}{ds:List b8}{E:XK}{x m:eT}{p pos apos:qe}{e o:gs}{es:List gs}{ta:TE}{t:TA}
theorem NX (F:aV X.prog X.w X.K X.mg X.base CX k f fd ps sp)(i:cN k X.A)(j:Binds X.K fd ps ds)(hd:aC dvs ds)(hx:rX CX X E)(I:Inv X a d H s)(r:aC vs b)(h:sp (vs++dvs) H Q E):hE (hR X.prog X.w) X.A (call (.ref f) b) (EP X a d Q) X.xe s:=by
 have g:aC (vs++dvs) (b++ds):=r.append hd;have l:(b++ds).length=ps.length:=by rw[<- g.length];exact F.len _ _ _ _ h
 refine wpAny_call (Vd (F.run X.A X.stack s H ⟨b,[]⟩ (b++ds) (vs++dvs) Q E i I.Ml (j s b I.fQ l) g h) λr s' c=>?_)
 cases r with
 | error e=>exact hx a d H s e s' I c
 | ok n =>
  cases n with
  | ret u=>exact I.after c
  | next=>exact z6 c
  | brk=>exact z6 c
  | cont=>exact z6 c
def x9 (F:aV X.prog X.w X.K X.mg X.base CX k f fd ps sp) (g:cN k X.A) (i:Gl X x) (j:X.mg x=some (.ref f)) (l:Wo X.K (.ref f)=true) (n:Binds X.K fd ps ds) (hd:aC dvs ds) (hx:rX CX X E)
  (u:PA X (e::es) t) (b:bJ x:=by decide) (v:bK X e es:=by rfl) (c:(T3 pos (ph es X.env)).any (·.1)=false:=by rfl) :
  PE X (.Call (.Name x p) (e::es) [] pos) (Nk sp dvs E t):=by
 intro a s y H Q I h;refine VR (C0 I i j ?_ b);refine W.callWith_K (h₀:=X.base) I.ok.mod.v9 l (aB (u pos a s y H _ I h) λus s1 ⟨vs,H1,d,r,q⟩=>⟨d.fQ,?_⟩) v c
 exact NX F g n hd hx d r q
end
structure bD (N P:List eT) (sc:z4):Prop where
 kind:sc.kind=.function
 co:sc.isCoroutine=false
 gen:sc.isGenerator=false
 nd:N.Nodup
 pre:N.take P.length=P
 par:∀x∈P,sc.names.lookup x=some .local\/sc.names.lookup x=some .cell
 JJ:∀y∈sc.names,y.2≠.free
theorem Bd {Uo:eT->Option Vs}:∀{binds:List (eT×b8)}{m:eT->Option b8},(∀v,(x,v)∉binds)->Xc Uo binds m x=m x
 | [],_,_=>rfl
 | (n,v)::r,m,h=>by
  unfold Xc;rw[Bd λw hw=>h w (ew _ hw)]
  split
  ·have:x≠n:=by rintro rfl;exact h v eH
   simp[this]
  ·rfl
theorem Bk {Uo:eT->Option Vs}:∀{binds:List (eT×b8)}{m:eT->Option b8},(∀v,(x,v)∉binds)->Xd Uo binds m x=m x
 | [],_,_=>rfl
 | (n,v)::r,m,h=>by
  unfold Xd;rw[Bk λw hw=>h w (ew _ hw)]
  split
  ·rfl
  ·have:x≠n:=by rintro rfl;exact h v eH
   simp[this]
theorem zl {Uo:eT->Option Vs}:∀{P:List eT}{vs:List b8}{i:Nat}{m:eT->Option b8},P.Nodup->P[i]? = some x->vs[i]? = some v->Uo x=some .local ->
  Xc Uo (P.zip vs) m x=some v
 | [],_,_,_,_,h,_,_=>by simp at h
 | _::_,[],_,_,_,_,h,_=>by simp at h
 | p::P,w::vs,0,m,nd,a,b,c=>by
  simp at a b;subst a;subst b;show Xc Uo ((p,w)::P.zip vs) m p=_;unfold Xc;rw[Bd λv d=>(ib.mp nd).1 (UT d).1,if_pos c]
  simp
 | p::P,w::vs,i + 1,m,nd,a,b,c=>by
  show Xc Uo ((p,w)::P.zip vs) m x=_;unfold Xc;exact zl (i:=i) (ib.mp nd).2 (by simpa using a) (by simpa using b) c
theorem CK {Uo:eT->Option Vs}:∀{P:List eT}{vs:List b8}{i:Nat}{m:eT->Option b8},P.Nodup->P[i]? = some x->vs[i]? = some v->Uo x≠some .local ->
  Xd Uo (P.zip vs) m x=some v
 | [],_,_,_,_,h,_,_=>by simp at h
 | _::_,[],_,_,_,_,h,_=>by simp at h
 | p::P,w::vs,0,m,nd,a,b,c=>by
  simp at a b;subst a;subst b;show Xd Uo ((p,w)::P.zip vs) m p=_;unfold Xd;rw[Bk λv d=>(ib.mp nd).1 (UT d).1,if_neg c]
  simp
 | p::P,w::vs,i + 1,m,nd,a,b,c=>by
  show Xd Uo ((p,w)::P.zip vs) m x=_;unfold Xd;exact CK (i:=i) (ib.mp nd).2 (by simpa using a) (by simpa using b) c
noncomputable def start (N:List eT) (vs:List V):St:=vs.map some++U' (N.length - vs.length) none
noncomputable def iJ (CX:gO) (P:hJ) (w:kq) (K:gj) (mg:eT->Option b8) (base:m3) (N:List eT) (a:eT) (scope:z4) (f:cW) (b:b8) (A:pl) (outer:List WK) (s:cA) (H:Hp) (E:XK):Cx where
 prog:=P
 w:=w
 K:=K
 mg:=mg
 base:=base
 A:=A.deeper (Vu a scope s.heap.objs.size f b)
 N:=N
 cY:=s
 pL:=H
 env:=Vu a scope s.heap.objs.size f b
 outer:=outer
 stack:=Vu a scope s.heap.objs.size f b::outer
 ex:=[]
 calm:=true
 fn:=λ_=>true
 pn:=[]
 xe:=λe s'=>hE (hR P w) (A.deeper (Vu a scope s.heap.objs.size f b)) (leaving (Vu a scope s.heap.objs.size f b) e) (λ_ c=>CX outer H s E e c) (λd c=>CX outer H s E d c) s'
def yu {a:z4}{n:Nat}{x:eT}(h:a.names.lookup x=some .cell):∃c,(YK n a.names []).lookup x=some c:=by
 have q:=Ye a.names n [] (.inl h);exact Ut.mp q
def MM {CX:gO}{P:hJ}{w:kq}{K:gj}{mg:eT->Option b8}{base:m3}{N l:List eT}{j:eT}{scope:z4}{f:cW}{B:b8}{A:pl}{outer:List WK}{s I:cA}{H:Hp}{E:XK}{G:List b8}{vs:List V}
  (S:bD N l scope) (hd:A.handled=none) (g:rE P w K mg base A outer s H) (hl:vs.length=l.length) (r:aC vs G)
  (x:InCallC s s.heap.objs.size (Xc (Vu j scope s.heap.objs.size f B).kindOf (l.zip G) λ_=>none) (YK (s.heap.objs.size + 1) scope.names []) (Xd (Vu j scope s.heap.objs.size f B).kindOf (l.zip G) λ_=>none) I) :
  Inv (iJ CX P w K mg base N j scope f B A outer s H E) [] (start N vs) H I:=by
 have hpl:l.length<=N.length:=by have:=congrArg List.length S.pre;rw[gg] at this;omega
 obtain⟨C,tk,rfl,J⟩:=x.done;have o:∀b:cW,b∉(iJ CX P w K mg base N j scope f B A outer s H E).ex:=λb z=>absurd (show b∈([]:List cW) from z) (by simp)
 refine⟨⟨g.mod,S.kind,rfl,rfl,eS _,λy z c C d=>?_,λy m=>?_,λy c _ h=>?_,λ_=>hd,Around.frames_deeper g.frames,.inr ⟨rfl,rfl⟩,λb z=>absurd z (o b),g.bs,g.jQ,λb _ _=>o b,λb z=>absurd z (o b),g.iB,g.mC⟩,
  rfl,g.bare,Un.kept J,⟨_,x.toInCall.ns,λi y v C d h3=>?_⟩,λy c h=>⟨_,x.cell y c h⟩,g.ai.fresh (eS _),λy c h=>?_,λp t=>absurd (show p∈([]:List (cW×tm)) from t) (by simp),g.ai.kept J,?_⟩
 ·exact name_of_addr x.apart (Tr C) (Tr d)
 ·have m:scope.names.lookup y=some .cell\/scope.names.lookup y=some .free:=m
  rcases m with m | m
  ·exact yu m
  ·exact absurd rfl (S.JJ _ (Tr m))
 ·exact VG (x.above y c (Tr h))
 ·have D:i < vs.length:=by
   unfold start at d
   by_cases D:i < vs.length
   ·exact D
   ·rw[hO (by simpa using D)] at d
    rw[UJ] at d;split at d <;> cases d
  have M:vs[i]? = some v:=by
   unfold start at d;rw[hH (by simpa using D),cn] at d
   cases e:vs[i]? with
   | none=>rw[e] at d;cases d
   | some a=>rw[e] at d;cases d;rfl
  obtain⟨u,L,O⟩:=r.get M;have t:l[i]? = some y:=by
   rw[<- S.pre,Wl (by omega)];exact C
  have F:l.Nodup:=by rw[<- S.pre];exact S.nd.sublist (XF _ _)
  refine⟨u,O,?_⟩
  rcases S.par y (eK t) with k | k
  ·exact .inl ⟨k,zl F t L k⟩
  ·obtain⟨c,e⟩:=yu (n:=s.heap.objs.size + 1) k;refine .inr ⟨.inl k,c,e,?_⟩;have q:=x.cell y c e;rw[CK F t L (by show scope.names.lookup y≠_;rw[k];decide)] at q
   exact q
 ·exact g.ai.fresh (VG (x.above y c (Tr h)))
 ·unfold start;show _=N.length;rw[eJ,a8,U3];omega
theorem Dv {CX:gO}{P:hJ}{w:kq}{K:gj}{mg:eT->Option b8}{base:m3}{k:Nat}{f:cW}{name a:eT}{d:Arguments}{body:List Ue}{scope:z4}{G kV z pm c ct X:b8}{L Y:Option cW}
  {M:Array (Option b8)}{N l:List eT}{sp:Sp}(lk:K.lookup f=some ⟨X,Y,.func (W0 name a d body scope G kV z pm L c ct),M⟩) (O:YL K c a=true) (S:bD N l scope)
  (len:∀vs H Q E,sp vs H Q E->vs.length=l.length)
  (m:∀(A:pl) (outer:List WK) (s:cA) (H:Hp) (vs:List V) (Q:VK) (E:XK),cN k (A.deeper (Vu a scope s.heap.objs.size f c))->sp vs H Q E ->
   ∃t,gn (iJ CX P w K mg base N a scope f c A outer s H E) body t/\t { nx:=λ_ g=>Q .aK g,rt:=Q } (start N vs) H) :
  aV P w K mg base CX (k + 1) f (W0 name a d body scope G kV z pm L c ct) l sp:=by
 refine⟨len,λA outer s H args Z vs Q E D j hb r B=>?_⟩
 have hl:=len _ _ _ _ B;have R:K.In s.heap:=j.mod.v9.keeps λb o e=>(j.bs b o e).1
 have T:s.heap.NoLimit:=j.mod.nolimit.keeps λb o e=>(j.bs b o e).1
 have p:∀y∈l.zip Z,scope.names.lookup y.1=some .local\/(scope.names.lookup y.1=some .cell/\((YK (s.heap.objs.size + 1) scope.names []).lookup y.1).isSome=true):=λ⟨n,v⟩ hy=>by
  rcases S.par n (UT hy).1 with q | q
  ·exact .inl q
  ·exact .inr ⟨q,Ye _ _ _ (.inl q)⟩
 refine codeAny_call_function D.depth (R _ _ lk) rfl S.co S.gen rfl (W.codeRec_of R O) (hb _ _ _ _ ?_);refine wpAny_newFunctionEnv_cells S.kind p λenv he U x=>?_
 subst he;refine⟨T.keeps x.toInCall.keep,codeAny_func ?_⟩;obtain⟨t,ht,hq⟩:=m A outer s H vs Q E (D.deeper _) B;have I:Inv (iJ CX P w K mg base N a scope f c A outer s H E) [] (start N vs) H U:=MM S D.hd j hl r x;refine uz (ht [] U (start N vs) H _ I hq) (λfl s' i=>?_) λe s' i=>i
 have C:∀{h:St}{g:Hp}{v:V}{u:b8},Inv (iJ CX P w K mg base N a scope f c A outer s H E) [] h g s'->RelV v u->Q v g->CE outer P w H s Q u s' :=
  λ{h g v u} J F q=>⟨v,g,J.os,J.bare,J.base,J.ai,F,q⟩
 cases fl with
 | ret u =>
  obtain⟨v,h,g,J,F,q⟩:=i;exact C J F q
 | next =>
  obtain⟨h,g,J,q⟩:=i;exact C (v:=V.aK) (u:=n6) J rfl q
 | brk =>
  obtain⟨_,_,_,q⟩:=i;exact z6 q
 | cont =>
  obtain⟨_,_,_,q⟩:=i;exact z6 q
section
variable {X:Cx}{x:eT}{p pos:qe}{e:gs}{es:List gs}{t:TA}{id T:String}{r:List V->Hp->VK->Prop}
noncomputable def uH (r:List V->Hp->VK->Prop) (t:TA):TE:=λa H Q=>t a H λvs b=>r vs b Q
def pQ (f:bO X (.builtin id) r) (g:Gl X x) (i:X.mg x=none) (j:P2 x=some (.builtin id)) (k:PA X (e::es) t) (l:x≠"__name__":=by decide) (b:bJ x:=by decide)
  (m:bK X e es:=by rfl) (c:(T3 pos (ph es X.env)).any (·.1)=false:=by rfl):PE X (.Call (.Name x p) (e::es) [] pos) (uH r t):=by
 intro a s d H Q I h;refine VR (nT I g i j ?_ l b);exact Y4 (aB (k pos a s d H _ I h) λn o ⟨vs,q,u,v,w⟩=>f a o d q vs n Q u v w) m c
def sN (f:bO X (.type T) r) (g:Gl X x) (i:X.mg x=none) (j:P2 x=some (.type T)) (k:PA X (e::es) t) (l:x≠"__name__":=by decide) (b:bJ x:=by decide)
  (m:bK X e es:=by rfl) (c:(T3 pos (ph es X.env)).any (·.1)=false:=by rfl):PE X (.Call (.Name x p) (e::es) [] pos) (uH r t):=by
 intro a s d H Q I h;refine VR (nT I g i j ?_ l b);exact TR (aB (k pos a s d H _ I h) λn o ⟨vs,q,u,v,w⟩=>f a o d q vs n Q u v w) m c
end
end L2
namespace HT
open PySem PyProof.Rows
section
open PySem.SeqAt
open PySem.AutoSeq1 (wpAny_loadPart')
open PySem.MeetsSeq PySem.MeetsSeq2 PySem.MeetsSeq3
end
section
variable {prog:hJ}{w:kq}{A:pl}{E:b8->cA->Prop}{s:cA}
def Of (m:T7 s.heap t vs.toArray)(o:T7 s.heap b a.toArray)(j:vs≠[])(p:a=[]->Q (.ref t) s)(q:a≠[]->Q (.ref s.heap.objs.size) { s with heap:=s.heap.push { cls:=.type "tuple",data:=.seq (vs++a).toArray } })(hsz:vs.length + a.length<=bg):hE (hR prog w) A (Tg .Add (.ref t) (.ref b)) Q E s:=by
 obtain⟨⟨cls,dd,data,k⟩,d,l,n,hd⟩:=id m;obtain⟨⟨cls2,f,data2,g⟩,c,h,n2,i⟩:=id o;simp only at l hd h i;subst l hd h i;have e:vs.toArray++a.toArray=(vs++a).toArray:=by simp
 by_cases hw:a=[]
 ·exact Xs ⟨_,d,rfl⟩ ⟨_,c,rfl⟩ YJ Zm We V8 (V3 _ _)
   (tuple_addW1 t b vs.toArray a.toArray n n2 dd f k g (by simpa using j) (by simp[hw])) ⟨d,c,p hw⟩
 ·refine Xs ⟨_,d,rfl⟩ ⟨_,c,rfl⟩ YJ Zm We V8 (V3 _ _)
   (tuple_addW2 t b vs.toArray a.toArray n n2 dd f k g (by simpa using j) (by simpa using hw) (by rw[e7,e7];exact hsz)) ⟨d,c,?_⟩
  rw[e];exact q hw
noncomputable def aO (n d:Nat):Option Int->Nat
 | none=>d
 | some v=>if v < 0 then (v + (n:Int)).toNat else min v.toNat n
def BL (n d):aO n d none=d:=rfl
def BH (n d k:Nat):aO n d (some (k:Int))=min k n:=by
 show (if (k:Int) < 0 then ((k:Int) + (n:Int)).toNat else min (k:Int).toNat n)=min k n
 rw[if_neg (by omega),VH]
theorem KY (n d) (hd:d<=n) (o):aO n d o<=n:=by
 cases o with
 | none=>exact hd
 | some v =>
  show (if v < 0 then (v + (n:Int)).toNat else min v.toNat n)<=n
  by_cases a:v < 0
  ·rw[if_pos a];omega
  ·rw[if_neg a];exact Nat.min_le_right _ _
def C6 (v:Int) (n d:Nat):(if v < 0 then max (v + (n:Int)) 0 else min v (n:Int))=((aO n d (some v):Nat):Int):=by
 show (if v < 0 then max (v + (n:Int)) 0 else min v (n:Int))=(((if v < 0 then (v + (n:Int)).toNat else min v.toNat n):Nat):Int)
 by_cases a:v < 0
 ·simp only[if_pos a];omega
 ·simp only[if_neg a];omega
def JL (lo a:Option Int) (n:Nat):T5 lo a 1 (n:Int)=(((aO n 0 lo:Nat):Int),((aO n n a:Nat):Int)):=by
 have b:¬((1:Int) < 0):=by omega
 unfold T5;simp only[b,if_false];refine Zv ?_ ?_
 ·cases lo with
  | none=>rfl
  | some v=>exact C6 v n 0
 ·cases a with
  | none=>rfl
  | some v=>exact C6 v n n
def JV (i j:Nat):z9 (i:Int) (j:Int) 1=j - i:=by
 unfold z9;have a:(1:Int) > 0:=by omega
 simp only[a,if_true,Int.ediv_one];split <;> omega
theorem BG (p:Wd v o)(h:Q o s):hE (hR prog w) A (YN v) Q E s:=by
 cases p with
 | none=>exact Zg h
 | int i t=>exact slicePart_int h
def Ei {f:cW}{d e:b8}{lo a:Option Int}{n:Nat}{Q:Int×Int×Nat->cA->Prop}(g:s.heap.IsSliceOf f d e .none) (i:Wd d lo) (j:Wd e a)
  (h:Q (((aO n 0 lo:Nat):Int),1,aO n n a - aO n 0 lo) s):hE (hR prog w) A (Vl (.ref f) (pure (n:Int))) Q E s:=by
 obtain⟨os,b,hcs,c⟩:=id g;unfold Vl YO;refine bt (bt (XS b c (x:=d) rfl (bt (XS b c (x:=e) rfl (bt (XS b c (x:=.none) rfl (eR ?_)))))));refine bt (Zg ?_);show hE _ _ (if ((1:Int) == 0)=true then _ else _) _ _ s
 rw[if_neg (by decide)]
 refine bt (BG i (bt (BG j (bt (eR ?_)))));show hE _ _ (match T5 lo a 1 (n:Int) with | (lo,a)=>pure (lo,(1:Int),z9 lo a 1)) _ _ s
 rw[JL lo a n];show hE _ _ (pure (((aO n 0 lo:Nat):Int),(1:Int),z9 ((aO n 0 lo:Nat):Int) ((aO n n a:Nat):Int) 1)) _ _ s;rw[JV];exact eR h
def HC (xs:Array b8) (i k:Nat):((lp k).filterMap λ(m:Nat)=>xs[((i:Int) + (m:Int) * 1).toNat]?).toArray=((xs.toList.drop i).take k).toArray:=by
 have e:(λ(m:Nat)=>xs[((i:Int) + (m:Int) * 1).toNat]?)=λm=>xs[i + m]?:=by
  funext m;have:((i:Int) + (m:Int) * 1).toNat=i + m:=by omega
  rw[this]
 rw[e];have:=pick_run xs i k;rw[List.filterMap_map] at this;have a:((λx=>xs[x]?) ∘ λx=>i + x)=λm=>xs[i + m]?:=rfl
 rw[a] at this;rw[this]
def EZ {t d:cW}{items:Array b8}{e f:b8}{lo b:Option Int}{Q:b8->cA->Prop}(c:T7 s.heap t items) (g:s.heap.IsSliceOf d e f .none) (n:Wd e lo) (o:Wd f b)
  (hw:¬(aO items.size 0 lo=0/\aO items.size items.size b=items.size))
  (h:Q (.ref s.heap.objs.size) { s with heap:=s.heap.push { cls:=.type "tuple",data:=.seq ((items.toList.drop (aO items.size 0 lo)).take (aO items.size items.size b - aO items.size 0 lo)).toArray } })
  (hsz:items.size<=bg):hE (hR prog w) A (Vy (.ref t) (.ref d)) Q E s:=by
 have a:sizeOk (.seq ((items.toList.drop (aO items.size 0 lo)).take (aO items.size items.size b - aO items.size 0 lo)).toArray):=by
  show ((items.toList.drop (aO items.size 0 lo)).take (aO items.size items.size b - aO items.size 0 lo)).toArray.size<=bg;rw[e7,gg,j1,m5];omega
 have hj:aO items.size items.size b<=items.size:=KY _ _ (eS _) b;obtain⟨os,i,j,hds⟩:=id g;have k:s.TypeIs (.ref d) "slice":=⟨os,i,j⟩;unfold Vy;try with_reducible refine nL ?_
 first | refine bt (eR ?_) | skip
 refine bt (wpAny_sequenceKey c.typeIs (by decide) ?_)
 refine bt (TQ (name:=ec "__getitem__") c.typeIs z5
  (ql z5 c.typeIs entry_tuple_getitem ?_ (args_tuple_getitem _ _)))
 show hE _ _ (YM (.ref t) >>= _) _ _ s;refine bt (tupleItemsOf_ c ?_);refine bt (Xm k ?_);rw[if_pos (by decide)]
 refine bt (Ei g n o ?_);have l:¬((((aO items.size 0 lo:Nat):Int) == 0 && (1:Int) == 1 && (aO items.size items.size b - aO items.size 0 lo) == items.size)=true):=by
  intro q;rw[dV,dV] at q;have q1:((aO items.size 0 lo:Nat):Int)=0:=eq_of_beq q.1.1;have q2:aO items.size items.size b - aO items.size 0 lo=items.size:=eq_of_beq q.2;exact hw ⟨by omega,by omega⟩
 show hE _ _ (if (((aO items.size 0 lo:Nat):Int) == 0 && (1:Int) == 1 && (aO items.size items.size b - aO items.size 0 lo) == items.size)=true then _ else _) _ _ s
 rw[if_neg l,HC]
 first
  | exact bt (m:=P' _) (sH (eR ⟨_,rfl,eR h⟩) a)
  | exact bt (m:=P' _) (sH (bt (eR (eR ⟨_,rfl,eR h⟩))) a)
  | exact bt (bt (m:=P' _) (sH (eR (eR ⟨_,rfl,eR h⟩)) a))
  | exact bt (bt (m:=P' _) (sH (eR ⟨_,rfl,eR h⟩) a))
end
end HT
namespace L2
open PySem PySem.Spec PyProof.Rows
noncomputable abbrev TO:=St->Hp->(Option Int->Hp->Prop)->Prop
noncomputable def PO (X:Cx) (e:Option gs) (t:TO):Prop :=
 ∀(a:List (cW×tm)) (s:cA) (b:St) (H:Hp) (Q:Option Int->Hp->Prop),Inv X a b H s->t b H Q ->
  hE (hR X.prog X.w) X.A (evalPart e X.env) (λu s'=>∃o c,Inv X a b c s'/\Wd u o/\Q o c) X.xe s
noncomputable def Ia:TO:=λ_ H Q=>Q none H
noncomputable def K2 (t:TE):TO:=λa H Q=>t a H λx b=>∃i,x=.int i/\Q (some i) b
section
variable {X:Cx}{e:gs}{te:TE}{lo hi:Option gs}{tl th:TO}{pos p2:qe}
def MT:PO X none Ia:=by
 intro pins s σ H Q I h;rw[Zn];exact eR ⟨none,H,I,.none,h⟩
def OW (h:PE X e te):PO X (some e) (K2 te):=by
 intro a s b H Q I hw;rw[evalPart_some];refine aB (h a s b H _ I hw) λu s1 ⟨x,c,d,f,g⟩=>?_
 obtain⟨i,rfl,q⟩:=g;obtain⟨t,rfl⟩:=f;exact⟨some i,c,d,.int i t,q⟩
noncomputable def jR (X:Cx) (r:V->Option Int->Option Int->Hp->VK->Prop):Prop :=
 ∀(a:List (cW×tm)) (s:cA) (b:St) (H:Hp) (x:V) (v c d:b8) (lo hi:Option Int) (f:cW) (Q:VK),Inv X a b H s->RelV x v->s.heap.IsSliceOf f c d .none->Wd c lo->Wd d hi->r x lo hi H Q ->
  ∃T id,Wx (.type T) "__getitem__"=pure (some (.builtin id))/\s.TypeIs v T/\hE (hR X.prog X.w) X.A (Vy v (.ref f)) (EP X a b Q) X.xe s
def jR.or (h:jR X r)(h':jR X b):jR X (λx lo hi H Q=>r x lo hi H Q\/b x lo hi H Q):=by
 intro a s c H x v d f lo hi g Q I rx i j k q
 rcases q with q | q
 ·exact h a s c H x v d f lo hi g Q I rx i j k q
 ·exact h' a s c H x v d f lo hi g Q I rx i j k q
noncomputable def Kx (r:V->Option Int->Option Int->Hp->VK->Prop) (te:TE) (tl th:TO):TE:=λa H Q=>te a H λx b=>tl a b λl c=>th a c λu d=>r x l u d Q
def M3 (j:jR X r)(k:PE X e te)(m:PO X lo tl)(n:PO X hi th):PE X (.Subscript e (.Slice lo hi none p2) pos) (Kx r te tl th):=by
 intro a s d H Q I h;refine Yl (aB (k a s d H _ I h) λv o ⟨x,p,t,y,z⟩=>?_)
 refine wpAny_Slice (aB (m a o d p _ t z) λf B ⟨l,C,D,E,F⟩=>aB (n a B d C _ D F) λg c ⟨u,i,G,J,K⟩=>?_)
 rw[Zn];refine eR ?_;have L:Inv X a d i { c with heap:=c.heap.push { cls:=.type "slice",data:=.fields #[f,g,.none] } }:=G.kept (t':=c.toks) λb ob q=>el _ q
 obtain⟨T,id,M,N,O⟩:=j a { c with heap:=c.heap.push { cls:=.type "slice",data:=.fields #[f,g,.none] } } d i x v f g l u c.heap.objs.size Q L y (Yx ..) E J K
 show hE (hR X.prog X.w) X.A (W3 e (.Slice lo hi none p2) v (.ref c.heap.objs.size)) (EP X a d Q) X.xe { c with heap:=c.heap.push { cls:=.type "slice",data:=.fields #[f,g,.none] } }
 exact tail_any (ops:=[.ref c.heap.objs.size,v]) N M O (by with_unfolding_all rfl)
noncomputable def iq (xs:List V) (lo hi:Option Int):List V:=(xs.drop (HT.aO xs.length 0 lo)).take (HT.aO xs.length xs.length hi - HT.aO xs.length 0 lo)
def Bc (xs) (lo hi):(iq xs lo hi).length<=xs.length:=by
 unfold iq;rw[gg,j1];omega
noncomputable def Io (K:gj):V->Option Int->Option Int->Hp->VK->Prop:=λx lo hi H Q=>∃a xs,x=.ref a/\bb K H a xs /\
 ¬(HT.aO xs.length 0 lo=0/\HT.aO xs.length xs.length hi=xs.length)/\∀p,H p=none->Q (.ref p) (upd H p (.tup (iq xs lo hi)))
def Mw:jR X (Io X.K):=by
 intro pins s σ H x v vl vu lo hi sl Q I rx g i j h;obtain⟨a,xs,rfl,hx,hw,q⟩:=h;cases rx;obtain⟨its,r,d,f⟩:=I.tuple hx;have c:its.toArray.size=xs.length:=by rw[e7];exact r.length.symm
 refine⟨"tuple",_,z5.lookup,d.typeIs,?_⟩;refine HT.EZ d g i j (by rw[c];exact hw) ?_ (by rw[c];exact f)
 rw[c];refine⟨.ref s.heap.objs.size,_,I.laid (t':=s.toks) (o:=.tup (iq xs lo hi)) (λb ob q=>el _ q) (eS _) ?_,rfl,q _ (I.ai.fresh (eS _))⟩
 exact⟨pA (Bc xs lo hi) f,_,(r.drop (HT.aO xs.length 0 lo)).take (HT.aO xs.length xs.length hi - HT.aO xs.length 0 lo),XC _ _⟩
noncomputable def Ao (K:gj):R2:=λx y H Q=>∃a b xs ys,x=.ref a/\y=.ref b/\bb K H a xs/\bb K H b ys/\xs≠[]/\xs.length + ys.length<=bg /\
 (ys=[]->Q (.ref a) H)/\(ys≠[]->∀p,H p=none->Q (.ref p) (upd H p (.tup (xs++ys))))
theorem aC.vK (r:aC xs a):a=[] ↔ xs=[]:=by
 cases r with
 | nil=>simp
 | cons _ _=>simp
def JI:aI X (Tg .Add) (Ao X.K):=by
 intro pins s σ H x y v u Q I rx g h;obtain⟨a,b,xs,ys,rfl,rfl,i,j,hx,f,k,l⟩:=h;cases rx;cases g;obtain⟨its,d,m,_⟩:=I.tuple i;obtain⟨its2,c,p2,_⟩:=I.tuple j;refine HT.Of m p2 (λz=>hx (d.vK.mp z)) (λz=>⟨.ref a,H,I,rfl,k (c.vK.mp z)⟩) (λz=>?_) (by rw[<- d.length,<- c.length];exact f)
 refine⟨.ref s.heap.objs.size,_,I.laid (t':=s.toks) (o:=.tup (xs++ys)) (λb ob q=>el _ q) (eS _) ?_,rfl,l (λw=>z (c.vK.mpr w)) _ (I.ai.fresh (eS _))⟩
 exact⟨by rw[eJ];exact f,_,d.append c,XC _ _⟩
end
noncomputable def fG (n:Nat) (i:Int):Option Nat:=if 0<=i then (if i < n then some i.toNat else none) else if -(n:Int)<=i then some (i + n).toNat else none
noncomputable def eN (xs:List a)(i:Int):Option a:=(fG xs.length i).bind λj=>xs[j]?
def xJ (h:fG n i=some j):seqIndex? i n=some j/\j < n/\-(n:Int)<=i/\i < n:=by
 unfold fG at h
 by_cases b:0<=i
 ·rw[if_pos b] at h
  by_cases a:i < n
  ·rw[if_pos a] at h;have e:i.toNat=j:=Option.some.inj h;exact⟨by rw[XT b a,e],by omega,by omega,a⟩
  ·rw[if_neg a] at h;cases h
 ·rw[if_neg b] at h
  by_cases a:-(n:Int)<=i
  ·rw[if_pos a] at h;have e:(i + n).toNat=j:=Option.some.inj h;exact⟨by rw[Xo (by omega) a,e],by omega,a,by omega⟩
  ·rw[if_neg a] at h;cases h
theorem w6 (h:eN xs i=some v):∃j,seqIndex? i xs.length=some j/\xs[j]? = some v/\j < xs.length/\-(xs.length:Int)<=i/\i < xs.length:=by
 unfold eN at h;cases e:fG xs.length i with
 | none=>rw[e] at h;cases h
 | some j =>
  rw[e] at h;obtain⟨b,c,d,f⟩:=xJ e;exact⟨j,b,h,c,d,f⟩
def mM {a:Type}{xs:List a}{j:Nat}{v:a}(h:xs[j]? = some v):eN xs (j:Int)=some v:=by
 have hj:j < xs.length:=(bc.mp h).1;have e:fG xs.length (j:Int)=some j:=by
  unfold fG;rw[if_pos (by omega),if_pos (by omega)];simp
 unfold eN;rw[e];exact h
noncomputable def mD (b:gs):Prop:=∀o i,Wh b false o i=operate [o,i] (Vy o i)
noncomputable def jx (X:Cx) (r:R2):Prop :=
 ∀(value slice:gs) (a:List (cW×tm)) (s:cA) (b:St) (H:Hp) (x y:V) (v u:b8) (Q:VK),Inv X a b H s->RelV x v->RelV y u->r x y H Q ->
  Wh slice false v u=operate [v,u] (Vy v u)->hE (hR X.prog X.w) X.A (W3 value slice v u) (EP X a b Q) X.xe s
noncomputable def oy (X:Cx) (id:String) (r:V->List V->Hp->VK->Prop):Prop :=
 ∀(a:List (cW×tm)) (s:cA) (b:St) (H:Hp) (x:V) (xs:List V) (v:b8) (c:List b8) (Q:VK),Inv X a b H s->RelV x v->aC xs c->r x xs H Q ->
  hE (hR X.prog X.w) X.A (call (.builtin id) (v::c)) (EP X a b Q) X.xe s
section
variable {X:Cx}{a b:gs}{ta tb:TE}{pos:qe}
def jx.or (h:jx X r)(h':jx X d):jx X (λx y H Q=>r x y H Q\/d x y H Q):=by
 intro value slice c s e H x y v u Q I rx f q g
 rcases q with q | q
 ·exact h value slice c s e H x y v u Q I rx f q g
 ·exact h' value slice c s e H x y v u Q I rx f q g
def zZ (d:jx X r)(e:PE X a ta)(f:PE X b tb)(g:mD b):PE X (.Subscript a b pos) (mH r ta tb):=by
 intro c s i H Q I h;exact Yl (vg e f I h λv u j x y k l rx m q=>d a b c j i k x y v u Q l rx m q (g _ _))
noncomputable def AN (K:gj):R2:=λx y H Q=>∃p xs i v,x=.ref p/\y=.int i/\cb K H p xs/\eN xs i=some v/\Q v H
noncomputable def AR (K:gj):R2:=λx y H Q=>∃p xs i v,x=.ref p/\y=.int i/\bb K H p xs/\eN xs i=some v/\Q v H
noncomputable def Bl:R2:=λx y H Q=>∃z i c,x=.str z/\y=.int i/\z.length<=bg/\eN z.cps.toList i=some c/\Q (.str ⟨#[c]⟩) H
def Od:jx X (AN X.K):=by
 intro value slice c s k H x y v u Q I rx A h l;obtain⟨p,xs,i,z,rfl,rfl,B,C,q⟩:=h;cases rx;obtain⟨t,rfl⟩:=A;obtain⟨its,r,f,hz⟩:=I.list B;obtain⟨j,d,D,h3,E,F⟩:=w6 C;obtain⟨w,m,n⟩:=r.get D;have G:=r.length;have hn:=jt;have e:EP X c k Q w s:=⟨z,H,I,n,q⟩
 by_cases o:0<=i
 ·have g:i.toNat=j:=by
   rw[XT o F] at d;exact Option.some.inj d
  exact item_listR f.isList o (by omega) (by rw[g];simpa using m) e l
 ·have g:(i + (its.toArray.size:Int)).toNat=j:=by
   rw[Xo (by omega) E] at d
   rw[e7,<- G];exact Option.some.inj d
  exact Xx (x:=w) f.isList.typeIs Ys.lookup
   (wpAny_getItem_list_neg (Q:=λr s'=>r=w/\EP X c k Q r s') f.isList (by omega) (by rw[e7] <;> omega) (by omega) (by rw[g];simpa using m) ⟨rfl,e⟩) l
def Nz:jx X (AR X.K):=by
 intro value slice c s d H x y v u Q I rx k h l;obtain⟨p,xs,i,z,rfl,rfl,m,n,q⟩:=h;cases rx;obtain⟨t,rfl⟩:=k;obtain⟨its,r,e,hz⟩:=I.tuple m;obtain⟨j,o,A,h3,h4,h5⟩:=w6 n;obtain⟨w,B,f⟩:=r.get A;have C:=r.length;have hn:=jt;have g:EP X c d Q w s:=⟨z,H,I,f,q⟩;exact Xx (x:=w) e.typeIs z5.lookup
  (getItem_tuple (j:=j) (Q:=λr s'=>r=w/\EP X c d Q r s') e (by omega) (by omega) (by rw[e7,<- C];exact o) (by simpa using B) ⟨rfl,g⟩) l
def LW:jx X Bl:=by
 intro value slice pins s σ H x y v u Q I rx e h f;obtain⟨z,i,c,rfl,rfl,hz,g,q⟩:=h;obtain⟨t,rfl⟩:=rx;obtain⟨t',rfl⟩:=e;obtain⟨j,d,k,h3,l,m⟩:=w6 g;have n:z.cps.toList.length=z.length:=by simp[Str.length]
 rw[n] at d l m;have hn:=jt;exact tail_any (typeIs_str s z t) slot_str_getitem.lookup (getItem_str (c:=c) (by
  have o:decide (i < -(2 ^ 63:Int))=false:=decide_eq_false (by omega)
  have p:decide (i ≥ 2 ^ 63)=false:=decide_eq_false (by omega)
  rw[o,p,Yn]) (by rw[d];simpa using k) ⟨.str ⟨#[c]⟩,H,I.tok _,⟨_,rfl⟩,q⟩) f
noncomputable def Ca (K:gj):R2:=λx y H Q=>AN K x y H Q\/AR K x y H Q\/Bl x y H Q
def BO:jx X (Ca X.K):=Od.or (Nz.or LW)
def M0 (its:List b8) (n j:Nat) (u:b8):Tx (·.setIfInBounds j u) { cls:=.type "list",data:=.seq its.toArray n }={ cls:=.type "list",data:=.seq (its.set j u).toArray n }:=by
 simp[Tx]
theorem Inv.lst (I:Inv X c d H s)(h:H p=some (.lst xs)) :
  ∃(its:List b8) (n:Nat),aC xs its/\s.heap.get? p=some { cls:=.type "list",data:=.seq its.toArray n }/\xs.length<=sizeLine:=by
 obtain⟨z,its,n,r,e⟩:=I.ai p _ h;exact⟨its,n,r,e,z⟩
def Inv.Iq {c:List (cW×tm)}{g:St}{H:Hp}{s:cA}{p:cW}{xs ys:List V}{its its':List b8}{n d:Nat}{f:tm->tm}(I:Inv X c g H s) (h:H p=some (.lst xs))
  (j:s.heap.get? p=some { cls:=.type "list",data:=.seq its.toArray n }) (i:f { cls:=.type "list",data:=.seq its.toArray n }={ cls:=.type "list",data:=.seq its'.toArray d }) (r:aC ys its') (k:ys.length<=bg) (t:Nat) :
  Inv X c g (upd H p (.lst ys)) { s with heap:=s.heap.update p f,toks:=t }:=by
 have e:(s.heap.update p f).get? p=some { cls:=.type "list",data:=.seq its'.toArray d }:=by
  rw[Wz f j (by rw[i] <;> rfl),i]
 refine I.write (x:=p) (e:=p) (by rw[h];trivial) (.inl rfl) (λb u l q=>(sW _ _ (Ne.symm l)).trans q) ⟨_,e⟩ ?_
 exact⟨k,its',d,r,e⟩
noncomputable def HQ:V->V->V->Hp->(Hp->Prop)->Prop:=λo i v H Q=>∃p xs k j,o=.ref p/\i=.int k/\H p=some (.lst xs)/\fG xs.length k=some j/\Q (upd H p (.lst (xs.set j v)))
def set_list:Bt X HQ:=by
 intro d s z H o i v ov iv u Q I ro A B h;obtain⟨p,xs,k,j,rfl,rfl,l,C,q⟩:=h;cases ro;obtain⟨t,rfl⟩:=A;obtain⟨its,n,r,e,D⟩:=I.lst l;obtain⟨c,h2,m,w⟩:=xJ C;have f:=r.length;have hn:=jt;have x:Inv X d z (upd H p (.lst (xs.set j v))) { s with heap:=s.heap.update p (Tx (·.setIfInBounds j u)) } :=
  I.Iq l e (M0 its n j u) (r.set B j) (by rw[vj];exact D) s.toks
 by_cases y:0<=k
 ·have g:k.toNat=j:=by
   rw[XT y w] at c;exact Option.some.inj c
  exact W.ki_setAt e y (by omega) (by rw[e7,<- f];exact w) (by rw[g];exact⟨_,x,q⟩)
 ·have g:(k + (its.toArray.size:Int)).toNat=j:=by
   rw[Xo (by omega) m] at c
   rw[e7,<- f];exact Option.some.inj c
  exact W.ki_setBack e (by omega) (by rw[e7,<- f];exact m) (by omega) (by rw[g];exact⟨_,x,q⟩)
def FF (lo c) (n):(Uc lo c none n).1=((HT.aO n 0 lo:Nat):Int)/\(Uc lo c none n).2.1=((HT.aO n n c:Nat):Int)/\(Uc lo c none n).2.2=1:=by
 refine⟨?_,?_,rfl⟩
 ·cases lo with
  | none=>simp[Uc,HT.aO]
  | some i =>
   simp only[Uc,HT.aO,Xh,show (1:Int) > 0 by decide,if_true]
   by_cases h:i < 0
   ·simp only[h,if_true] <;> omega
   ·simp only[h,if_false] <;> omega
 ·cases c with
  | none=>simp[Uc,HT.aO]
  | some i =>
   simp only[Uc,HT.aO,Xh,show (1:Int) > 0 by decide,if_true]
   by_cases h:i < 0
   ·simp only[h,if_true] <;> omega
   ·simp only[h,if_false] <;> omega
def Dk (its:List b8) (lo c:Option Int):slicePick its.toArray lo c none=((its.drop (HT.aO its.length 0 lo)).take (HT.aO its.length its.length c - HT.aO its.length 0 lo)).toArray:=by
 obtain⟨d,e,f⟩:=FF lo c its.toArray.size;unfold slicePick;rw[d,e,f];simp only[sliceRange_one,pick_run,e7] <;> rfl
noncomputable def Lb (K:gj):V->Option Int->Option Int->Hp->VK->Prop:=λx lo c H Q=>∃a xs,x=.ref a/\cb K H a xs/\∀p,H p=none->Q (.ref p) (upd H p (.lst (iq xs lo c)))
def IS:jR X (Lb X.K):=by
 intro pins s σ H x v vl vu lo c sl Q I rx f g i h;obtain⟨a,xs,rfl,hx,q⟩:=h;cases rx;obtain⟨its,r,e,j⟩:=I.list hx;have d:=r.length;refine⟨"list",_,Ys.lookup,e.isList.typeIs,?_⟩;refine wpAny_getItem_list_slice e.isList f g i .none (by simp) ?_ (by rw[e7] <;> omega)
 rw[Dk,<- d];refine⟨.ref s.heap.objs.size,_,I.laid (t':=s.toks) (o:=.lst (iq xs lo c)) (λb ob q=>el _ q) (eS _) ?_,rfl,q _ (I.ai.fresh (eS _))⟩
 exact⟨pA (Bc xs lo c) j,_,0,(r.drop (HT.aO xs.length 0 lo)).take (HT.aO xs.length xs.length c - HT.aO xs.length 0 lo),hB _ rfl⟩
def DC:aI X (l4 .NotIn) (λx y H Q=>∃i j,x=.str i/\y=.str j/\Q (.bl (!(!(VO j i 0 j.length 1).isEmpty))) H):=by
 intro pins s σ H x y v u Q I rx c h;obtain⟨i,j,rfl,rfl,q⟩:=h;obtain⟨t,rfl⟩:=rx;obtain⟨t',rfl⟩:=c;exact notIn_str ⟨.bl _,H,I,rfl,q⟩
def Js:bO X (.builtin "len") (λxs H Q=>∃p ys,xs=[.ref p]/\(cb X.K H p ys\/bb X.K H p ys)/\Q (.int ys.length) H):=by
 intro pins s σ H xs us Q I r h;obtain⟨p,ys,rfl,d,q⟩:=h;obtain⟨u,rfl,rx⟩:=vals1 r;cases rx;have hn:=jt
 rcases d with d | d
 ·obtain⟨its,e,f,g⟩:=I.list d;have c:=e.length;exact Calls.call_len_list f.isList (by simp only[e7] <;> omega) ⟨.int ys.length,H,I.tok _,⟨s.toks + 1,by rw[e7,c]⟩,q⟩
 ·obtain⟨its,e,f,g⟩:=I.tuple d;have c:=e.length;exact len_tuple f (by simp only[e7] <;> omega) ⟨.int ys.length,H,I.tok _,⟨s.toks + 1,by rw[e7,c]⟩,q⟩
def NG:bO X (.builtin "len") (λxs H Q=>∃z,xs=[.str z]/\z.length<=bg/\Q (.int z.length) H):=by
 intro pins s σ H xs us Q I r h;obtain⟨z,rfl,hz,q⟩:=h;obtain⟨u,rfl,t,rfl⟩:=vals1 r;have hn:=jt;exact len_str (by omega) ⟨.int z.length,H,I.tok _,⟨_,rfl⟩,q⟩
def bO.or (h:bO X f r)(h':bO X f d):bO X f (λxs H Q=>r xs H Q\/d xs H Q):=by
 intro c s e H xs g Q I rs q
 rcases q with q | q
 ·exact h c s e H xs g Q I rs q
 ·exact h' c s e H xs g Q I rs q
def Mc:bO X (.type "list") (λxs H Q=>∃p ys,xs=[.ref p]/\(cb X.K H p ys\/bb X.K H p ys)/\∀l,H l=none->Q (.ref l) (upd H l (.lst ys))):=by
 intro j s y H xs us Q I r h;obtain⟨p,ys,rfl,f,q⟩:=h;obtain⟨u,rfl,rx⟩:=vals1 r;cases rx;have i:∀(its:List b8),aC ys its->ys.length<=bg->∀(h':m3) (c:Nat),(∀b x,s.heap.get? b=some x->h'.get? b=some x) ->
   h'.get? s.heap.objs.size=some { cls:=.type "list",dict:=none,data:=.seq its.toArray c,slots:=#[] }->EP X j y Q (.ref s.heap.objs.size) { s with heap:=h' }:=λits d g h' c kp e =>
  ⟨.ref s.heap.objs.size,_,I.laid (t':=s.toks) kp (eS _) (show cB X.prog X.w _ h' _ (.lst ys) from ⟨g,its,c,d,e⟩),rfl,q _ (I.ai.fresh (eS _))⟩
 rcases f with f | f
 ·obtain⟨its,d,k,g⟩:=I.list f;have m:=d.length;obtain⟨o,t,v,n,hd⟩:=k.isList;exact Zo p (.inl rfl) t v hd (λh' c kp e=>i its d g h' c kp e) (by simp only[e7] <;> omega)
 ·obtain⟨its,d,k,g⟩:=I.tuple f;have m:=d.length;obtain⟨o,t,v,n,hd⟩:=k;exact Zo p (.inr rfl) t v hd (λh' c kp e=>i its d g h' c kp e) (by simp only[e7] <;> omega)
def F6:bO X (.type "tuple") (λxs H Q=>∃p ys,xs=[.ref p]/\((cb X.K H p ys/\∀l,H l=none->Q (.ref l) (upd H l (.tup ys)))\/(bb X.K H p ys/\Q (.ref p) H))):=by
 intro c s i H xs us Q I r h;obtain⟨p,ys,rfl,h⟩:=h;obtain⟨u,rfl,rx⟩:=vals1 r;cases rx
 rcases h with⟨d,q⟩ | ⟨d,q⟩
 ·obtain⟨its,f,g,j⟩:=I.list d;have hlen:=f.length;refine call_tuple_list g.isList (λh' kp=>?_) (by simp only[e7] <;> omega)
  have k:Inv X c i H { s with heap:=h' }:=I.kept (t':=s.toks) kp
  have m:Inv X c i (upd H h'.objs.size (.tup ys)) { s with heap:=h'.push { cls:=.type "tuple",data:=.seq its.toArray } } :=
   k.laid (t':=s.toks) (λb o e=>el _ e) (eS _) (show cB X.prog X.w _ _ _ (.tup ys) from ⟨j,its,f,XC _ _⟩)
  exact⟨.ref h'.objs.size,_,m,rfl,q _ (k.ai.fresh (eS _))⟩
 ·obtain⟨its,f,g,j⟩:=I.tuple d;exact call_tuple_same g ⟨.ref p,H,I,rfl,q⟩
noncomputable def Bh (K:gj) (T:String) (x:V) (H:Hp):Prop:=match x with
 | .str _=>T="str"
 | .int _=>T="int"
 | .ref p=>(T="list"/\∃xs,cb K H p xs)\/(T="tuple"/\∃o,K.lookup p=some o/\o.cls=.type "tuple"/\o.dict=none) \/
   (T="dict"/\((∃kvs,H p=some (.dK kvs))\/∃kvs,H p=some (.dT kvs)))\/(T="set"/\∃S n,H p=some (.set S n))
 | _=>False
theorem J2 (I:Inv X f k H s)(r:RelV x v)(ty:Bh X.K T x H) :
  s.TypeIs v T/\∀a,v=.ref a->∃h,s.heap.get? a=some h/\h.dict=none:=by
 cases x with
 | str z =>
  obtain⟨t,rfl⟩:=r;cases (show T="str" from ty)
  exact⟨typeIs_str s z t,λ_ e=>nomatch e⟩
 | int i =>
  obtain⟨t,rfl⟩:=r;cases (show T="int" from ty)
  exact⟨X' s i t,λ_ e=>nomatch e⟩
 | ref p =>
  cases r
  rcases ty with⟨rfl,xs,l⟩ | ⟨rfl,o,d,m,hd⟩ | ⟨rfl,d⟩ | ⟨rfl,S,n,d⟩
  ·obtain⟨its,_,j,_⟩:=I.list l;refine⟨j.isList.typeIs,λa e=>?_⟩
   cases e;obtain⟨o,n,e,c,hd,_⟩:=j;exact⟨o,e,hd⟩
  ·refine⟨⟨o,I.fQ p o d,m⟩,λa e=>?_⟩
   cases e;exact⟨o,I.fQ _ o d,hd⟩
  ·have z:∃o,s.heap.get? p=some o/\o.ExactDict:=by
    rcases d with⟨kvs,d⟩ | ⟨kvs,d⟩
    ·obtain⟨_,_,_,_,o,_,_,e,ex,_⟩:=I.ai p _ d;exact⟨o,e,ex⟩
    ·obtain⟨_,_,_,_,o,_,_,e,ex,_⟩:=I.ai p _ d;exact⟨o,e,ex⟩
   obtain⟨o,e,ex⟩:=z;refine⟨⟨o,e,ex.1⟩,λa g=>?_⟩
   cases g;exact⟨o,e,ex.2.1⟩
  ·obtain⟨o,_,_,_,e,ex,_⟩:=I.ai p _ d;refine⟨⟨o,e,ex.1⟩,λa g=>?_⟩
   cases g;exact⟨o,e,ex.2.1⟩
 | _=>exact z6 ty
noncomputable def pC (K:gj) (T:String) (r:V->List V->Hp->VK->Prop) (to:TE) (t:TA):TE:=λc H Q=>to c H λx d=>Bh K T x d/\t c d λxs e=>r x xs e Q
variable {o e:gs}{es:List gs}{to:TE}{t:TA}{name:eT}{apos cpos:qe}{T id:String}{r:V->List V->Hp->VK->Prop}
def mW (p:PlainAttrs T) (slot:Slot T name id) (k:typeOf (.builtin id)=pure (.type "method_descriptor")) (q:oy X id r) (u:PE X o to) (w:PA X (e::es) t)
  (f:TF o name X.env (eval o X.env)=eval o X.env:=by rfl)
  (i:((T3 cpos (ph (e::es) X.env)).all (λx=>!x.1) && (Y' cpos (XU [] X.env)).all (λx=>x.1.isSome)
   && decide ((e::es).length + ([]:List Ws).length + (if ([]:List Ws).isEmpty then 0 else 1) < 30))=true:=by rfl)
  (g:(apos.endLine == cpos.line)=true:=by rfl) (y:bK X e es:=by rfl) (d:(T3 cpos (ph es X.env)).any (·.1)=false:=by rfl) :
  PE X (.Call (.Attribute o name apos) (e::es) [] cpos) (pC X.K T r to t):=by
 intro c s j H Q I h;refine wpAny_Call_method_late f i g rfl (aB (u c s j H _ I h) λv z ⟨x,A,l,m,ty,B⟩=>?_)
 obtain⟨C,D⟩:=J2 l m ty;refine⟨T,id,p,slot,k,C,D,?_⟩;have n:=w cpos c z j A _ l B;rw[y] at n ⊢;refine Calls.callWith_builtin (by show (false || (T3 cpos (ph es X.env)).any (·.1))=false;rw[d] <;> rfl) (Calls.evalArgs_plain ?_)
 exact aB n λE F ⟨vs,G,J,L,M⟩=>q c F j G x vs v E Q J m L M
end
noncomputable def Cp (X:Cx) (id:String) (r:V->List V->Hp->VK->Prop):Prop :=
 ∀(a:List (cW×tm)) (s:cA) (b:St) (H:Hp) (x:V) (xs:List V) (v:b8) (c:List b8) (Q:VK),Inv X a b H s->RelV x v->aC xs c->r x xs H Q ->
  hE (hR X.prog X.w) X.A (call (.builtin id) (v::c)) (EP X a b Q) X.xe s
theorem aC.one (h:aC [x] a):∃u,a=[u]/\RelV x u:=by
 cases h with
 | cons r t=>cases t;exact⟨_,rfl,r⟩
theorem aC.two (h:aC [x,y] a):∃u v,a=[u,v]/\RelV x u/\RelV y v:=by
 cases h with
 | cons r t =>
  obtain⟨v,e,q⟩:=aC.one t;exact⟨_,v,by rw[e],r,q⟩
section
variable {X:Cx}{pins:List (cW×tm)}{σ:St}{H:Hp}{s:cA}{l b:cW}{xs ys zs:List V}
def Inv.yU {its its':List b8}{n:Nat}{f:Array b8->Array b8}{t':Nat}(I:Inv X pins σ H s) (a:H l=some (.lst xs))
  (e:s.heap.get? l=some { cls:=.type "list",data:=.seq its.toArray n }) (c:f its.toArray=its'.toArray) (d:aC ys its') (g:ys.length<=bg) :
  Inv X pins σ (upd H l (.lst ys)) { s with heap:=s.heap.update l (Tx f),toks:=t' }:=by
 have q:=PySem.IsL.update e f;rw[c] at q;refine I.write (x:=l) (e:=l) (by rw[a];exact trivial) (.inl rfl) (λb' u h i=>(sW s.heap (Tx f) (Ne.symm h)).trans i) ⟨_,q⟩ ?_
 exact⟨g,its',_,d,q⟩
def Inv.sd (I:Inv X pins σ H s)(a:aC ys its)(c:ys.length<=bg) :
  Inv X pins σ (upd H s.heap.objs.size (.lst ys)) { s with heap:=s.heap.push { cls:=.type "list",data:=.seq its.toArray },toks:=t' } :=
 I.laid (λ_ _ q=>el _ q) (eS _) ⟨c,its,0,a,hB _ rfl⟩
theorem Inv.fresh (I:Inv X pins σ H s):H s.heap.objs.size=none:=I.ai.fresh (eS _)
def Inv.Cj (I:Inv X pins σ H s) (a:H l=some (.lst xs)):xs.length<=bg/\∃(its:List b8) (n:Nat),aC xs its/\xs.length=its.length/\s.heap.get? l=some { cls:=.type "list",data:=.seq its.toArray n }:=by
 obtain⟨z,its,n,r,e⟩:=I.ai l _ a;exact⟨z,its,n,r,r.length,e⟩
end
section
variable {X:Cx}
noncomputable def y6:V->List V->Hp->VK->Prop:=λx vs H Q=>∃l xs y,x=.ref l/\vs=[y]/\H l=some (.lst xs)/\xs.length < bg/\Q .aK (upd H l (.lst (xs++[y])))
def yz:Cp X "list.append" y6:=by
 intro pins s σ H x vs v us Q I rx b h;obtain⟨l,xs,y,rfl,rfl,a,hz,q⟩:=h;cases rx;obtain⟨u,rfl,c⟩:=b.one;obtain⟨z,its,n,r,hl,e⟩:=I.Cj a;refine Vf WJ ⟨_,e,rfl⟩ F.entry_list_append (F.args_list_append_2 _ _) (PySem.list_append l its.toArray n u (by rw[e7];omega)) ⟨e,?_⟩
 refine⟨.aK,_,I.yU (its':=its++[u]) a e (by simp) (r.append (.cons c .nil)) ?_,rfl,q⟩
 rw[eJ,TV];omega
end
section
variable {prog:hJ}{w:kq}{A:pl}{E:b8->cA->Prop}{s:cA}
set_option maxRecDepth 100000 in
end
section
variable {κ:Type} [DecidableEq κ]
noncomputable def eB (kvs:List (κ×V)) (k:κ):Option V:=(kvs.find? λa=>decide (a.1=k)).map (·.2)
noncomputable def putK (kvs:List (κ×V)) (k:κ) (v:V):List (κ×V) :=
 if (kvs.any λa=>decide (a.1=k))=true then kvs.map (λa=>if a.1=k then (a.1,v) else a) else kvs++[(k,v)]
def oi {p:κ×V}{r:List (κ×V)}{k:κ}(e:p.1=k):eB (p::r) k=some p.2:=by simp[eB,Tv,e]
def o8 {p:κ×V}{r:List (κ×V)}{k:κ}(e:¬p.1=k):eB (p::r) k=eB r k:=by simp[eB,Tv,e]
theorem qZ (k):∀kvs:List (κ×V),(kvs.any λa=>decide (a.1=k))=(eB kvs k).isSome
 | []=>rfl
 | p::r=>by
  rw[I9]
  by_cases e:p.1=k
  ·simp only[oi e,decide_eq_true e,Bool.true_or,Option.isSome_some]
  ·rw[o8 e,decide_eq_false e,Yo];exact qZ k r
def tQ (kvs:List (κ×V)) (k:κ) (v:V):(putK kvs k v).length<=kvs.length + 1:=by
 unfold putK;split
 ·rw[a8];omega
 ·rw[eJ,fk,wm];omega
theorem iM.oC (r:iM o u):o.isSome=u.isSome:=by
 cases o with
 | none=>cases u with
  | none=>rfl
  | some _=>exact (show False from r).elim
 | some _=>cases u with
  | none=>exact (show False from r).elim
  | some _=>rfl
theorem KV.val (r:KV kvs vs)(k:κ):iM (eB kvs k) (VY vs k):=by
 unfold KV at r;induction r with
 | nil=>exact TX
 | @cons p q ps a h t f =>
  obtain⟨d,g⟩:=h
  by_cases e:p.1=k
  ·have c:q.1=k:=d.symm.trans e;have b:VY (q::a) k=some q.2:=by simp[VY,Tv,c]
   rw[oi e,b];exact g
  ·have c:¬q.1=k:=λz=>e (d.trans z)
   have b:VY (q::a) k=VY a k:=by simp[VY,Tv,c]
   rw[o8 e,b];exact f
theorem KV.any (r:KV kvs vs)(k:κ):(kvs.any λa=>decide (a.1=k))=vs.any λa=>decide (a.1=k):=by
 unfold KV at r;induction r with
 | nil=>rfl
 | cons h t b=>rw[I9,I9,b,h.1]
theorem KV.ic (r:KV kvs vs)(k:κ)(c:RelV y u) :
  KV (kvs.map λa=>if a.1=k then (a.1,y) else a) (vs.map λa=>if a.1=k then (a.1,u) else a):=by
 unfold KV at r ⊢;induction r with
 | nil=>exact .nil
 | @cons p q ps qs h t d =>
  rw[gi,gi];refine .cons ?_ d;obtain⟨b,f⟩:=h
  by_cases e:p.1=k
  ·rw[if_pos e,if_pos (b.symm.trans e)];exact⟨b,c⟩
  ·rw[if_neg e,if_neg (λz=>e (b.trans z))];exact⟨b,f⟩
def KV.put (r:KV kvs vs)(k:κ)(a:RelV y u):KV (putK kvs k y) (stored vs k u):=by
 unfold putK stored;rw[r.any k]
 by_cases e:(vs.any λb=>decide (b.1=k))=true
 ·rw[if_pos e,if_pos e];exact r.ic k a
 ·rw[if_neg e,if_neg e];exact Paired.snoc r ⟨rfl,a⟩
theorem KV.keys {kvs:List (κ×V)}{vs:List (κ×b8)}(r:KV kvs vs):kvs.map (·.1)=vs.map (·.1):=by
 unfold KV at r;induction r with
 | nil=>rfl
 | cons h t a=>rw[gi,gi,a,h.1]
theorem KV.length (r:KV kvs vs):kvs.length=vs.length:=Paired.length r
end
theorem mw (r:RelV (kV k) u):(cG P w).is k u=true:=by
 cases k with
 | inl i=>obtain⟨t,e⟩:=(show ∃t,u=UE i t from r);subst e;exact Jt P w i t
 | inr x=>obtain⟨t,e⟩:=(show ∃t,u=Tn x t from r);subst e;exact Hw P w x t
theorem A9:∀{a:List Key}{b:List b8},aC (a.map kV) b->ItemsAre (cG P w) a b
 | [],_,r=>by rw[TK] at r;cases r;exact .nil
 | k::a,_,r=>by
  rw[gi] at r;cases r with
  | cons h t=>exact .cons (mw h) (A9 t)
noncomputable abbrev KT (H:Hp):List (List Key×V)->List (List Key×cW×b8)->Prop:=T4 λp q=>p.1=q.1/\H q.2.1=some (.tup (p.1.map kV))/\RelV p.2 q.2.2
theorem KT.val (r:KT H kvs xs)(k:List Key):iM (eB kvs k) ((Wy xs k).map (·.2)):=by
 induction r with
 | nil=>exact TX
 | @cons p q ps a h t f =>
  obtain⟨d,_,g⟩:=h
  by_cases e:p.1=k
  ·have c:q.1=k:=d.symm.trans e;have b:Wy (q::a) k=some q.2:=by simp[Wy,Tv,c]
   rw[oi e,b];exact g
  ·have c:¬q.1=k:=λz=>e (d.trans z)
   have b:Wy (q::a) k=Wy a k:=by simp[Wy,Tv,c]
   rw[o8 e,b];exact f
theorem KT.ic (r:KT H kvs xs)(k:List Key)(d:RelV y u) :
  KT H (kvs.map λb=>if b.1=k then (b.1,y) else b) (xs.map (putAt k u)):=by
 induction r with
 | nil=>exact .nil
 | @cons p q ps qs h t f =>
  rw[gi,gi];refine .cons ?_ f;obtain⟨a,c,g⟩:=h;unfold putAt
  by_cases e:p.1=k
  ·rw[if_pos e,if_pos (a.symm.trans e)];exact⟨a,c,d⟩
  ·rw[if_neg e,if_neg (λz=>e (a.trans z))];exact⟨a,c,g⟩
def KT.put (r:KT H kvs xs)(k:List Key)(c:H b=some (.tup (k.map kV)))(a:RelV y u) :
  KT H (putK kvs k y) (storedH xs k b u):=by
 have e:(kvs.any λd=>decide (d.1=k))=(Wy xs k).isSome:=by
  rw[qZ,(r.val k).oC,Vo]
 unfold putK storedH;rw[e]
 by_cases q:(Wy xs k).isSome=true
 ·rw[if_pos q,if_pos q];exact r.ic k a
 ·rw[if_neg q,if_neg q];exact Paired.snoc r ⟨rfl,c,a⟩
def KT.keeps (r:KT H kvs xs)(c:∀b ys,H b=some (.tup ys)->a b=some (.tup ys)):KT a kvs xs :=
 Paired.nC r λ_ _ z=>⟨z.1,c _ _ z.2.1,z.2.2⟩
section
variable {P:hJ}{w:kq}{H:Hp}{h:m3}{a:cW}
def wg (ok:bS P w H h)(e:Rd H a u):cB P w H h a u:=e.ok ok
def kz (ok:bS P w H h)(e:Rd H a (.dK kvs)):kvs.length<=bg/\(a == zc)=false/\∃vs,KV kvs vs/\h.DictOf (cG P w) a vs :=
 show cB P w H h a (.dK kvs) from wg ok e
def Fe (ok:bS P w H h)(e:H a=some (.dK kvs)):kvs.length<=bg/\(a == zc)=false/\∃vs,KV kvs vs/\h.DictOf (cG P w) a vs:=kz ok (.inl e)
def oF (ok:bS P w H h)(e:H a=some (.tup (b.map kV))):(Wc (cG P w)).is h b a:=by
 obtain⟨_,its,r,o,c,d,n,f⟩:=(show cB P w H h a (.tup (b.map kV)) from ok a _ e)
 exact⟨o,its.toArray,n,c,d,f,by simpa using A9 r⟩
def pI (ok:bS P w H h)(e:Rd H a (.dT kvs)):kvs.length<=bg/\(a == zc)=false /\
  ∃xs,KT H kvs xs/\h.DictOfH (Wc (cG P w)) a xs:=by
 obtain⟨z,y,xs,r,o,c,ep,d,f,g,i,j⟩:=(show cB P w H h a (.dT kvs) from wg ok e)
 refine⟨z,y,xs,r,o,c,ep,d,f,g,i,λx hx=>?_,j⟩
 have all:∀{l:List (List Key×V)}{m:List (List Key×cW×b8)},KT H l m->∀x∈m,(Wc (cG P w)).is h x.1 x.2.1:=by
  intro l m q;induction q with
  | nil=>intro x hx;exact nomatch hx
  | @cons p q ps qs b t k =>
   intro x hx
   rcases cR.mp hx with e | hx
   ·subst e;exact oF ok (by rw[<- b.1];exact b.2.1)
   ·exact k x hx
 exact all r x hx
def F8 (ok:bS P w H h)(e:H a=some (.dT kvs)):kvs.length<=bg/\(a == zc)=false /\
  ∃xs,KT H kvs xs/\h.DictOfH (Wc (cG P w)) a xs:=pI ok (.inl e)
end
noncomputable def gV (H:Hp) (a:cW) (y:V) (r:Option V):Prop :=
 (∃kvs k,Rd H a (.dK kvs)/\y=kV k/\r=eB kvs k)\/∃kvs k b,Rd H a (.dT kvs)/\y=.ref b/\H b=some (.tup (k.map kV))/\r=eB kvs k
noncomputable def j6 (H:Hp) (a:cW) (y v:V) (c:Hp):Prop :=
 (∃kvs k,H a=some (.dK kvs)/\y=kV k/\kvs.length < bg/\c=upd H a (.dK (putK kvs k v))) \/
 ∃kvs k b,H a=some (.dT kvs)/\y=.ref b/\H b=some (.tup (k.map kV))/\kvs.length < bg/\c=upd H a (.dT (putK kvs k v))
theorem gV.k {H:Hp}{a:cW}{kvs:List (Key×V)}{k:Key}(e:H a=some (.dK kvs)):gV H a (kV k) (eB kvs k):=.inl ⟨kvs,k,.inl e,rfl,rfl⟩
theorem j6.k {H:Hp}{a:cW}{kvs:List (Key×V)}{k:Key}{v:V}(e:H a=some (.dK kvs)) (b:kvs.length < bg):j6 H a (kV k) v (upd H a (.dK (putK kvs k v))):=.inl ⟨kvs,k,e,rfl,b,rfl⟩
def j6.t {H:Hp}{a b:cW}{kvs:List (List Key×V)}{k:List Key}{v:V}(e:H a=some (.dT kvs)) (c:H b=some (.tup (k.map kV))) (d:kvs.length < bg) :
  j6 H a (.ref b) v (upd H a (.dT (putK kvs k v))):=.inr ⟨kvs,k,b,e,rfl,c,d,rfl⟩
section
variable {X:Cx}{pins:List (cW×tm)}{σ:St}{H:Hp}{s:cA}{a:cW}{y v:V}{u r:b8}{o:Option V}{A:pl}{E:b8->cA->Prop}
def Inv.tE (I:Inv X pins σ H s):zc < s.heap.objs.size:=by
 have h:Ud < s.heap.objs.size:=(I.mod.glob.keeps I.bk).lt;exact TN (by decide) h
def G7 (n:A.units + 1 < vi)(I:Inv X pins σ H s)(g:gV H a y (some v))(j:RelV y u)(h:∀c s',Inv X pins σ H s'->RelV v c->Q c s') :
  hE (hR X.prog X.w) A (Vy (.ref a) u) Q E s:=by
 rcases g with⟨kvs,k,e,i,l⟩ | ⟨kvs,k,b,e,i,q,l⟩
 ·subst i;obtain⟨z,hd,vs,d,dd⟩:=kz I.ai e;obtain⟨c,hw,f⟩:=iM.some_of (v:=v) (o:=VY vs k) (by rw[l];exact d.val k)
  exact wpAny_getItem_of (mw j) dd.mapOf hw (h c _ (I.tok _) f)
 ·subst i;cases (show u=ti b from j)
  obtain⟨z,hd,xs,d,dd⟩:=pI I.ai e;obtain⟨c,hw,f⟩:=iM.some_of (v:=v) (o:=(Wy xs k).map (·.2)) (by rw[l];exact d.val k)
  obtain⟨p,t,m⟩:=g0.mp hw;refine wpAny_getItem_heap (UD n) (oF I.ai q) dd t ?_;rw[m];exact h c _ (I.tok _) f
def Lk (i:A.units + 1 < vi)(I:Inv X pins σ H s)(g:gV H a y o)(f:RelV y u)(h:∀s',Inv X pins σ H s'->Q (.bool o.isSome) s') :
  hE (hR X.prog X.w) A (l4 .In u (.ref a)) Q E s:=by
 rcases g with⟨kvs,k,e,d,l⟩ | ⟨kvs,k,b,e,d,j,l⟩
 ·subst d;obtain⟨z,hd,vs,c,dd⟩:=kz I.ai e;refine wpAny_in_of (mw f) hd dd.mapOf ?_;rw[<- (c.val k).oC,<- l];exact h _ (I.tok _)
 ·subst d;cases (show u=ti b from f)
  obtain⟨z,hd,xs,c,dd⟩:=pI I.ai e;refine wpAny_in_heap (UD i) (oF I.ai j) hd dd ?_;have q:=(c.val k).oC;rw[Vo] at q;rw[<- q,<- l];exact h _ (I.tok _)
def Iu (i:A.units + 1 < vi)(I:Inv X pins σ H s)(g:gV H a y o)(f:RelV y u)(h:∀s',Inv X pins σ H s'->Q (.bool (!o.isSome)) s') :
  hE (hR X.prog X.w) A (l4 .NotIn u (.ref a)) Q E s:=by
 rcases g with⟨kvs,k,e,d,l⟩ | ⟨kvs,k,b,e,d,j,l⟩
 ·subst d;obtain⟨z,hd,vs,c,dd⟩:=kz I.ai e;refine wpAny_notIn_of (mw f) hd dd.mapOf ?_;rw[<- (c.val k).oC,<- l];exact h _ (I.tok _)
 ·subst d;cases (show u=ti b from f)
  obtain⟨z,hd,xs,c,dd⟩:=pI I.ai e;refine wpAny_notIn_heap (UD i) (oF I.ai j) hd dd ?_;have q:=(c.val k).oC;rw[Vo] at q;rw[<- q,<- l];exact h _ (I.tok _)
def ze (I:Inv X pins σ H s)(f:oR (H a))(g:UO a s.heap h')(h:∃q,h'.get? a=some q)(d:cB X.prog X.w (upd H a c) h' a c) :
  Inv X pins σ (upd H a c) { s with heap:=h',toks:=t' } :=
 I.write (x:=a) (e:=a) f (.inl rfl) (λb q i z=>(g.2 b i).trans z) h d
def uO (z:kvs.length<=bg)(hd:(a == zc)=false)(b:KV kvs vs)(dd:h'.DictOf (cG P w) a vs) :
  cB P w c h' a (.dK kvs):=⟨z,hd,vs,b,dd⟩
def GL (G:A.units + 1 < vi)(I:Inv X pins σ H s)(g:j6 H a y v x)(B:RelV y u)(C:RelV v r)(h:∀s',Inv X pins σ x s'->Q () s') :
  hE (hR X.prog X.w) A (Yt (.ref a) u r) Q E s:=by
 rcases g with⟨kvs,k,e,j,l,m⟩ | ⟨kvs,k,b,e,j,D,l,m⟩
 ·subst j m;obtain⟨z,hd,vs,d,dd⟩:=Fe I.ai e;have n:vs.length<=sizeLine:=by rw[<- d.length];exact z
  have p:(putK kvs k v).length<=sizeLine:=by have:=tQ kvs k v;omega
  refine wpAny_setItem_pairs (hsz:=n) (mw B) dd λh' f t=>h _ ?_
  have J:∃q,h'.get? a=some q:=let ⟨q,_,_,i,_⟩:=f;⟨q,i⟩
  exact ze I (by rw[e];exact TX) t J (uO p hd (d.put k C) f)
 ·subst j m;cases (show u=ti b from B)
  obtain⟨z,hd,xs,d,dd⟩:=F8 I.ai e;have n:xs.length<=sizeLine:=by rw[<- Paired.length d];exact z
  have p:(putK kvs k v).length<=sizeLine:=by have:=tQ kvs k v;omega
  refine wpAny_setItem_heap (hsz:=n) (UD G) (oF I.ai D) dd λh' f t=>h _ ?_
  obtain⟨q,K,ep,i,L,M,N,_,O⟩:=f;refine ze I (by rw[e];exact TX) t ⟨q,i⟩ ⟨p,hd,_,(d.put k D C).keeps λc ys F=>?_,q,K,ep,i,L,M,N,O⟩
  rw[aA (Oi F e (λz=>nomatch z))]
  exact F
end
section
variable {X:Cx}{pins:List (cW×tm)}{σ:St}{H:Hp}{s:cA}{a:cW}{kvs:List (Key×V)}{k:Key}{u:b8}{A:pl}{E:b8->cA->Prop}
def M9 (I:Inv X pins σ H s)(e:Rd H a (.dK kvs))(h:∀t s',Inv X pins σ H s'->Q (.int kvs.length t) s'):hE (hR X.prog X.w) A (call (.builtin "len") [.ref a]) Q E s:=by
 obtain⟨z,hd,vs,b,dd⟩:=kz I.ai e;refine call_len_dict hd dd (by rw[<- b.length];rw[qo] at z;omega) ?_
 rw[<- b.length];exact h _ _ (I.tok _)
end
noncomputable def C7 (i:gs):Prop:=∀a b,Wh i false a b=operate [a,b] (Vy a b)
def Kp {prog:hJ}{w:kq}{A:pl}{E:b8->cA->Prop}{s:cA}{env:WK}{value slice:gs}{pos:qe}{T id:String}{Q:b8->cA->Prop}
  (k:Wx (.type T) "__getitem__"=pure (some (.builtin id))) (l:C7 slice)
  (h:hE (hR prog w) A (eval value env) (λo c=>hE (hR prog w) A (eval slice env) (λi a=>a.TypeIs o T/\hE (hR prog w) A (Vy o i) Q E a) E c) E s) :
  hE (hR prog w) A (eval (.Subscript value slice pos) env) Q E s:=by
 refine Yl (uz h (λo c f=>uz f (λi a b=>?_) λ_ _ x=>x) λ_ _ x=>x)
 obtain⟨j,b⟩:=b;unfold W3;refine bt ?_;rw[getitemInPython_of_ne j.not_modules];refine bt (wpAny_specialOf j k ?_);have d:hE (hR prog w) A (Wh slice false o i) (λr e=>hE (hR prog w) A (letTemporaryGo value o r >>= λ_=>pure r) Q E e) E a:=by
  rw[l o i];exact wpAny_operating (uz b (λr e g=>bt (wpAny_letTemporaryGo (eR g))) λ_ _ x=>x)
 first
  | exact eR (bt d)
  | exact bt (eR (bt d))
  | exact bt d
def Hd (I:Inv X c d H s)(g:gV H a y o):s.TypeIs (.ref a) "dict":=by
 rcases g with⟨kvs,k,e,_,_⟩ | ⟨kvs,k,b,e,_,_,_⟩
 ·obtain⟨_,_,vs,_,dd⟩:=kz I.ai e;exact dd.typeIs
 ·obtain⟨_,_,xs,_,dd⟩:=pI I.ai e;exact dd.typeIs
noncomputable def Dp (d ty:TE):TE:=λb H Q=>d b H λx e=>ty b e λy c=>∃a v,x=.ref a/\gV c a y (some v)/\Q v c
noncomputable def FJ (d ty e:TE):TS:=λD b H=>e b H λv f=>d b f λx g=>ty b g λy h=>∃a c,x=.ref a/\j6 h a y v c/\D.nx b c
section
variable {X:Cx}{o i e value:gs}{pos pos' tpos:qe}{td ty tv:TE}
def vG (j:X.A.units + 1 < vi) (k:PE X o td) (l:PE X i ty) (m:C7 i):PE X (.Subscript o i pos) (Dp td ty):=by
 intro b s c H Q I h;refine Kp PySem.F.slot_dict_getitem.lookup m (aB (k b s c H _ I h) λu n ⟨x,p,q,rx,r⟩=>aB (l b n c p _ q r) λiv s2 ⟨y,t,d,w,a,v,ex,g,z⟩=>?_)
 subst ex;obtain rfl:u=ti a:=rx;exact⟨Hd d g,G7 j d g w λw' s3 B f=>⟨v,t,B,f,z⟩⟩
def yP (d:X.A.units + 1 < vi) (f:PE X o td) (j:PE X i ty) (k:PE X value tv) (l:r0 value (some (.Subscript o i pos')) pos.line X.env=pure false) :
  PS X (.Assign [.Subscript o i pos'] value pos) (FJ td ty tv):=by
 intro b s c H D I h;refine wpAny_Assign_Subscript (aB (k b s c H _ I h) λr m ⟨v,n,p,q,t⟩=>aB (f b m c n _ p t) λu w ⟨x,z,B,rx,C⟩=>aB (j b w c z _ B C) λiv s3 ⟨y,H3,E,F,a,G,ex,g,J⟩=>?_) l
 subst ex;obtain rfl:u=ti a:=rx;exact GL d E g F q λs4 K=>⟨c,G,K,J⟩
end
def Ez (h:m3)(a:zc < h.objs.size):cB P w H (h.push { cls:=.type "dict",data:=.dict #[] }) h.objs.size (.dT []) :=
 ⟨qh _,beq_eq_false_iff_ne.mpr (Ne.symm (gW a)),[],.nil,_,#[],0,hB _ rfl,⟨rfl,rfl,rfl⟩,rfl,rfl,za⟩
noncomputable def JK:TE:=λ_ H Q=>∀p,H p=none->Q (.ref p) (upd H p (.dT []))
section
variable {X:Cx}{pos:qe}
def Du:PE X (.Dict [] [] pos) JK:=λpins s σ H Q I h =>
 wpAny_Dict_empty ⟨.ref s.heap.objs.size,_,I.laid (a:=s.heap.objs.size) (o:=.dT []) (t':=s.toks) (λ_ _ q=>el _ q) (eS _) (Ez s.heap I.tE),rfl,h _ (I.ai.fresh (eS _))⟩
end
noncomputable def jL (kvs more:List (Key×V)):List (Key×V):=more.foldl (λa b=>putK a b.1 b.2) kvs
theorem KV.merge:∀{more:List (Key×V)}{rs:List (Key×b8)}{kvs:List (Key×V)}{vs:List (Key×b8)},KV more rs->KV kvs vs->KV (jL kvs more) (Xq vs rs):=by
 intro more rs kvs vs r;unfold KV at r;induction r generalizing kvs vs with
 | nil=>intro q;exact q
 | @cons p q ps qs h t a =>
  intro b;have e:KV (putK kvs p.1 p.2) (stored vs q.1 q.2):=by
   have:=b.put p.1 h.2;rw[<- h.1];exact this
  exact a e
theorem AZ:∀(more kvs:List (Key×V)),(jL kvs more).length<=kvs.length + more.length
 | [],kvs=>by show kvs.length<=kvs.length + 0;omega
 | p::r,kvs=>by
  have h1:=AZ r (putK kvs p.1 p.2);have h2:=tQ kvs p.1 p.2;show (jL (putK kvs p.1 p.2) r).length<=_;rw[fk];omega
section
variable {X:Cx}{pins:List (cW×tm)}{σ:St}{H:Hp}{s:cA}{a:cW}{kvs:List (Key×V)}{A:pl}{E:b8->cA->Prop}
def MR (I:Inv X pins σ H s)(e:Rd H a (.dK kvs))(h:∀p s',H p=none->Inv X pins σ (upd H p (.dK kvs)) s'->Q (.ref p) s'):hE (hR X.prog X.w) A (call (.type "dict") [.ref a]) Q E s:=by
 obtain⟨z,hd,vs,c,dd⟩:=kz I.ai e;refine kt_call_dict hd dd (by rw[<- c.length];exact z) λh' d g=>?_
 refine h _ _ (I.ai.fresh (eS _)) (I.laid (a:=s.heap.objs.size) (o:=.dK kvs) (t':=s.toks) (λb q f=>?_) (eS _) (uO z (beq_eq_false_iff_ne.mpr (Ne.symm (gW I.tE))) c d))
 exact (g.2 b (gW (fj f))).trans (el _ f)
end
end L2
namespace x5
open PySem PySem.W PySem.Calls PyProof.Rows
theorem HB:∀(c:List Int) (vs:List b8),WellAll P h vs (c.map YU)->XD vs c:=by
 intro c;induction c with
 | nil =>
  intro vs w;rw[TK] at w;cases w;exact .nil
 | cons n c d =>
  intro vs w;rw[gi] at w;cases w with
  | cons a b =>
   cases a;exact .cons _ _ (d _ b)
theorem D0 {l:X3}{n:Nat}(o:l.most=some n) {P:Params}{h:m3}{args:List WData}{c:List b8}
  (e:l.row.toRowW.claim.pre args=true) (k:WellAll P h c args) :
  ∃a vs b,c=[ti a]/\args=[WData.list (b.map YU)]/\h.get? a=some { cls:=.type "list",data:=.seq vs.toArray }/\XD vs b/\b.length<=n:=by
 have jS:WShape.hasAll [] args [.list .int]=true:=(pre_splitW e).1;have m:l.pre.holds [] { args:=args }=true:=(pre_splitW e).2;obtain⟨d,r,rfl,p,s⟩:=hasAllW_cons jS;obtain rfl:=hasAllW_nil s;obtain⟨xs,rfl,t⟩:=hasW_list p;obtain⟨b,rfl⟩:=items_int t;have i:b.length<=n:=by
  unfold OpenLaw.pre at m;have f:(WTm.not (.lt (.lit (.int (n:Int))) (.len (.arg 0)))).holds [] { args:=[.list (b.map .int)] }=true:=by
   have f:=(holds_andW m).1;rw[o] at f;exact f
  have g:=condW_of f (w_not (w_lt w_lit (w_len_list (w_arg rfl))));rw[a8] at g;refine Nat.le_of_not_lt λq=>?_
  have u:(n:Int) < ((b.length:Nat):Int):=by omega
  first
   | (rw[decide_eq_true u] at g;exact absurd g (by decide))
   | (simp at g;omega)
 cases k with
 | cons v w =>
  cases w;cases v with
  | list x j=>exact⟨_,_,b,rfl,rfl,x,HB b _ j,i⟩
def DX (l:X3) (args:List WData):l.row.toRowW.claim.post args (.bool true) args=true :=
 postW_of (r:=l.row.toRowW) (X:=(true == true))
  (show WShape.has [] (.bool true) .bool=true by first | rfl | decide | simp[WShape.has,WShape.arms,WShape.armsAll])
  (show (WTm.eq .res (.lit (.bool true))).value [] { args:=args,res:=some (.bool true),after:=args }=some (.bool (true == true)) from w_eq_bool (w_res rfl) w_lit) rfl
def OL {l:X3}{n:Nat}{q:hJ}{c:List eT}{s:(eT->Option b8)->m3->Prop}{t:kq->m3->Prop}{d:DefRec}
  (A:l.most=some n) (u:d.params.defaults=[])
  (call:∀(w:kq) (cY b:cA) (mg j:eT->Option b8) (fa:cW) (o:tm) (pm g e:b8) (a:cW) (vs:List b8) (h:List Int),
   Ground q c [] s w cY mg j b.heap->t w b.heap ->
   b.heap.get? fa=some o->o.data=.func (docDef d.name d.params d.body d.scope pm g e)->b.heap.CodeRec g d.name->mg d.name=some (.ref fa) ->
   b.heap.get? a=some { cls:=.type "list",data:=.seq vs.toArray }->XD vs h->h.length<=n->b.gens=#[] ->
   Ve (hR l.prog w) V0 (.call (.ref fa) ⟨[.ref a],[]⟩) (λr s'=>r=.ok (.ret (.bool true))/\OldK b.heap s'.heap/\s'.os=b.os/\Vg s'.gens) b) :
  WalkO q c s t l.row.toRowW d [] (λf vs=>PySem.call f vs):=by
 intro w cY b mg j G Y fa o pm g e B kV C hd v x y D args vals as k hlay hrd z hlo;obtain rfl:B=.none:=Dflts.none x u;obtain rfl:kV=.none:=Dflts.noKw x;obtain⟨a,vs,h,rfl,rfl,m,i,p⟩:=D0 A k z;refine enter_call (Vd (call w cY b mg j fa o pm g e a vs h G Y C (fd_plain hd) v y m i p D) λr s' E=>?_)
 obtain⟨rfl,F,H,I⟩:=E;exact⟨.inl ⟨.bool true,.bool true,[],rfl,λ_=>rfl,.bool true,DX l _,λ_=>⟨UY,λ_ J=>(nomatch J)⟩⟩,F,H,I⟩
end x5
namespace L2
open PySem PySem.Spec PyProof.Rows
theorem Bj:∀{vs:List b8}{a:List Int},XD vs a->aC (a.map V.int) vs
 | _,_,.nil=>.nil
 | _,_,.cons n t h=>.cons ⟨t,rfl⟩ (Bj h)
noncomputable def vJ (H:Hp):Prop:=∀b,H b=none\/∃o xs,H b=some (.ba o (.lst xs))
theorem FG {P:hJ}{w:kq}{K:gj}{mg D:eT->Option b8}{CX:gO}{k:Nat}{fa a:cW}{M:hI}{x:eT}{sp:Sp}{c:cA}{vs:List b8}{j:List Int}
  (N:K.In c.heap) (B:c.heap.Ns Ud mg) (f:c.heap.Ns Yd D) (O:∀x:eT,x≠"__name__"->D x=P2 x) (E:c.heap.NoLimit) (hg:c.gens=#[])
  (y:c.heap.get? a=some { cls:=.type "list",data:=.seq vs.toArray }) (Q:XD vs j) (R:j.length<=bg) (hr:cN k V0)
  (F:∀base:m3,K.In base->base.Ns Ud mg->aV P w K mg base CX k fa M [x] sp) (A:∀(s:cA) (u:b8),YA s M ⟨[u],[]⟩ [(x,u)])
  (S:∀H:Hp,vJ H->cb K H a (j.map V.int)->sp [.ref a] H (λv _=>v=.bl true) λ_ _ _=>False)
  (T:∀H e s',CX [] H c (λ_ _ _=>False) e s'->False) :
  Ve (hR P w) V0 (.call (.ref fa) ⟨[.ref a],[]⟩) (λr s'=>r=.ok (.ret (.bool true))/\OldK c.heap s'.heap/\s'.os=c.os/\Vg s'.gens) c:=by
 have U:=Bj Q;have G:=Q.length;have l:∀H:Hp,vJ H->cb K H a (j.map V.int)->bS P w H c.heap->(∀b,H b≠none->b=a)->(H a≠none->K.lookup a=none) ->
   Ve (hR P w) V0 (.call (.ref fa) ⟨[.ref a],[]⟩) (λr s'=>r=.ok (.ret (.bool true))/\OldK c.heap s'.heap/\s'.os=c.os/\Vg s'.gens) c:=by
  intro H X hS ai Y hK;have g:∀{b:cW}{o:tm},c.heap.get? b=some o->H b=none->(jq c.heap H).get? b=some o:=λe n=>GQ e n
  have Z:∀{b:cW}{o:tm}{p:Array T9}{ep:Nat},c.heap.get? b=some o->o.data=.dict p ep->H b=none:=λ{b o p ep} e d=>by
   cases q:H b with
   | none=>rfl
   | some u =>
    have I:b=a:=Y b (by rw[q];simp)
    subst I;rw[y] at e;cases e;have d':Data.seq vs.toArray _=Data.dict p ep:=d;cases d'
  have i:∀{b:cW}{m:eT->Option b8},c.heap.Ns b m->(jq c.heap H).Ns b m:=λ{b m} ⟨o,p,ep,e,d,r⟩=>⟨o,p,ep,g e (Z e d),d,r⟩
  have C:K.In (jq c.heap H):=λb o e=>g (N b o e) (by
   cases q:H b with
   | none=>rfl
   | some u =>
    have I:b=a:=Y b (by rw[q];simp)
    subst I;rw[hK (by rw[q];simp)] at e;cases e)
  have hM:Mod K mg (jq c.heap H):=⟨C,i B,⟨D,i f,O⟩,let ⟨mc,h1,h2⟩:=E;⟨mc,i h1,h2⟩⟩
  have e0:rE P w K mg (jq c.heap H) V0 [] c H:=⟨rfl,hM,λb o e=>JB e,YR (FY _ _),trivial,λb f=>absurd (show b∈([]:List cW) from f) (by simp),ai,.of_eq hg⟩
  refine Vd ((F _ C (i B)).run V0 [] c H ⟨[.ref a],[]⟩ [.ref a] [.ref a] _ _ hr e0 (A c (.ref a)) (.cons rfl .nil) (S H X hS)) λr s' h=>?_
  cases r with
  | error e=>exact (T H e s' h).elim
  | ok fl =>
   cases fl with
   | next=>exact z6 h
   | brk=>exact z6 h
   | cont=>exact z6 h
   | ret u =>
    obtain⟨v,H',os,bare,un,J,r',q⟩:=h;have q':v=.bl true:=q;subst q';obtain rfl:u=r4 true:=r';refine⟨rfl,OldK.of_keep λb o e=>?_,os,bare⟩
    cases q:H b with
    | none=>exact un.keep b o e q (by intro z;exact absurd (show b∈([]:List cW) from z) (by simp)) (by simp)
    | some u =>
     rcases X b with z | ⟨ob,xs,z⟩
     ·rw[q] at z;cases z
     ·have z2:=un.gZ b ob _ z;obtain⟨e1,_⟩:=ai b _ z;obtain⟨e2,_⟩:=J b _ z2;rw[e] at e1;cases e1;exact e2
 cases L:K.lookup a with
 | some o =>
  have e:=N a o L;rw[y] at e;cases e;refine l (λ_=>none) (λ_=>.inl rfl) (.inr ⟨_,vs.toArray,_,L,rfl,rfl,rfl,by rw[e7,G];exact R,by simpa using U⟩) (λb u z=>by have t:(none:Option HO)=some u:=z;cases t) (λb z=>absurd rfl z) λz=>absurd rfl z
 | none =>
  refine l (λb=>if b=a then some (.ba { cls:=.type "list",data:=.seq vs.toArray } (.lst (j.map V.int))) else none) (λb=>?_) (.inl (.inr ⟨{ cls:=.type "list",data:=.seq vs.toArray },if_pos rfl⟩)) (λb u z=>?_) (λb z=>?_) λ_=>L
  ·by_cases f:b=a
   ·exact .inr ⟨_,_,if_pos f⟩
   ·exact .inl (if_neg f)
  ·by_cases f:b=a
   ·have t:=(if_pos f).symm.trans z;cases t;subst f;exact⟨y,by rw[a8];exact R,vs,_,U,y⟩
   ·have t:=(if_neg f).symm.trans z;cases t
  ·by_cases f:b=a
   ·exact f
   ·exact absurd (if_neg f) z
def JF {l:X3}{n k:Nat}{q:hJ}{i:List eT}{I:(eT->Option b8)->m3->Prop}{y:kq->m3->Prop}{d:DefRec}{K:Params->gj}{CX:kq->gO}{sp:kq->Sp}{x:eT}
  (J:l.most=some n) (z:n<=bg) (A:d.params.defaults=[]) (L:cN k V0)
  (M:∀(w:kq) (h:m3),y w h->(K w.params).In h)
  (F:∀(w:kq) (mg:eT->Option b8) (fa:cW) (h:m3),(K w.params).In h->h.Ns Ud mg->mg d.name=some (.ref fa) ->
   ∃p:hI,(∀(s:cA) (u:b8),YA s p ⟨[u],[]⟩ [(x,u)]) /\
    ∀base:m3,(K w.params).In base->base.Ns Ud mg->aV l.prog w (K w.params) mg base (CX w) k fa p [x] (sp w))
  (B:∀(w:kq) (H:Hp) (a:cW) (j:List Int),j.length<=n->vJ H->cb (K w.params) H a (j.map V.int)->sp w [.ref a] H (λv _=>v=.bl true) λ_ _ _=>False)
  (C:∀(w:kq) (H:Hp) (s:cA) (e:b8) (s':cA),CX w [] H s (λ_ _ _=>False) e s'->False) :
  W.WalkO q i I y l.row.toRowW d [] (λf vs=>PySem.call f vs):=by
 refine x5.OL J A λw cY r mg mb fa o pm cd doc a vs j G Y ho hd hcd D t m c N=>?_
 have E:=M w _ Y;obtain⟨p,O,P⟩:=F w mg fa _ E G.T.g D;exact FG E G.T.g G.T.b G.T.builtins G.T.nolimit N t m (pA c z) L P O (λH Q R=>B w H a j c Q R) λH e s'=>C w H r e s'
noncomputable def pG (s:Ue):Arguments:=match s with
 | .FunctionDef _ a _ _ _ _ _ _ _ _=>a
 | _=>{ posonlyargs:=[],args:=[],vararg:=none,kwonlyargs:=[],kw_defaults:=[],kwarg:=none,defaults:=[] }
noncomputable def iO (s:Ue):List Stmt:=match s with
 | .FunctionDef _ _ b _ _ _ _ _ _ _=>b
 | _=>[]
noncomputable def aS (s:Ue):Scope:=match s with
 | .FunctionDef _ _ _ _ _ _ a _ _ _=>a
 | _=>{ kind:=.function,names:=[],isGenerator:=false,isCoroutine:=false }
noncomputable abbrev aX:gO:=λ_ _ _ _ _ _=>False
noncomputable abbrev E0:XK:=λ_ _ _=>False
def Dz:rX aX X E0:=λ_ _ _ _ _ _ _ h=>h.elim
structure bA (K:gj) (x qual:eT) (st:Ue) (f:cW) (fd:hI):Prop where
 ex:∃(oc:b8) (od:Option cW) (kV doc pm:b8) (an:Option cW) (cdv ct:b8) (osl:Array (Option b8)),
  fd=W0 x qual (pG st) (iO st) (aS st) .none kV doc pm an cdv ct/\K.lookup f=some ⟨oc,od,.func fd,osl⟩/\YL K cdv qual=true
 kp:Wo K (.ref f)=true
section
variable {P:hJ}{w:kq}{K:gj}{mg:eT->Option b8}{base:m3}
def bA.ok {x a:eT}{st:Ue}{f:cW}{e:hI}{N d:List eT}{k:Nat}{sp:Sp}(F:bA K x a st f e) (S:bD N d (aS st)) (len:∀vs H Q E,sp vs H Q E->vs.length=d.length)
  (c:∀(b:b8) (A:pl) (outer:List WK) (s:cA) (H:Hp) (vs:List V) (Q:VK) (E:XK),cN k (A.deeper (Vu a (aS st) s.heap.objs.size f b))->sp vs H Q E ->
   ∃t,gn (iJ aX P w K mg base N a (aS st) f b A outer s H E).jN (iO st) t/\t { nx:=λ_ j=>Q .aK j,rt:=Q } (start N vs) H):aV P w K mg base aX (k + 1) f e d sp:=by
 obtain⟨oc,od,kV,doc,pm,an,b,ct,osl,rfl,lk,g⟩:=F.ex;refine Dv lk g S len λA outer s H vs Q E l i=>?_
 obtain⟨t,h,q⟩:=c b A outer s H vs Q E l i;exact⟨t,h.jN,q⟩
def bA.binds {x a:eT}{st:Ue}{f:cW}{i:hI}{d:List eT}(F:bA K x a st f i)
  (h:∀(kV b pm:b8) (e:Option cW) (c ct:b8) (g:List b8),g.length=d.length->bindArgs (W0 x a (pG st) (iO st) (aS st) .none kV b pm e c ct) ⟨g,[]⟩=pure (d.zip g)):Binds K i d []:=by
 obtain⟨oc,od,kV,b,pm,e,c,ct,osl,rfl,lk,hcd⟩:=F.ex;exact .all (h kV b pm e c ct)
def Fn {x a:eT}{st:Ue}{f:cW}{h:b8}{i g:Option cW}{e:Array (Option b8)}{kV d pm b ct:b8}(l:K.lookup f=some ⟨h,i,.func (W0 x a (pG st) (iO st) (aS st) .none kV d pm g b ct),e⟩)
  (c:YL K b a=true) (k:Wo K (.ref f)=true):bA K x a st f (W0 x a (pG st) (iO st) (aS st) .none kV d pm g b ct):=⟨⟨h,i,kV,d,pm,g,b,ct,e,rfl,l,c⟩,k⟩
end
noncomputable def af (H a:Hp):Prop:=∀b o,H b=some o->a b=some o
def af.refl (H):af H H:=λ_ _ h=>h
def af.trans (a:af H d)(b:af d e):af H e:=λc o h=>b c o (a c o h)
noncomputable abbrev CQ (ifs:List gs) (env:WK):Zb Bool:=forIn ifs true λt ok =>
 if ok=true then (Xr t env (eval t env)) >>= λb=>pure (.yield b)
 else pure (.yield ok)
noncomputable abbrev mB:b8->cA->Prop:=λ_ _=>False
section
variable {P:hJ}{w:kq}{Ar:pl}
theorem N1 (W:Nat->cA->Prop)(turn:∀n c,W n c->hE (hR P w) Ar (Vc b) (λd g=>match d with
   | none=>k (.ok .next) g
   | some u=>hE (hR P w) Ar (Vi e b u)
     (λ_ o=>hE (hR P w) Ar (T8 e env u)
      (λ_ p=>hE (hR P w) Ar (CQ ifs env)
       (λok h=>if ok=true then hE (hR P w) Ar (eval elt env)
         (λy q=>hE (hR P w) Ar (call (.builtin "list.append") [a,y]) (λ_ r=>∃m,m < n/\W m r) mB q) mB h
        else ∃m,m < n/\W m h) mB p) mB o) mB g) mB c)(s:Nat)(A:W s l):Ve (hR P w) Ar (.compLoop (.ListComp elt [⟨e,f,ifs,0⟩] i j) 0 b a env) k l:=by
 refine codeAny_loop rfl W (λn c hw=>?_) s A
 show hE _ Ar (Sem.onRaise (compTurn (.ListComp elt [⟨e,f,ifs,0⟩] i j) 0 b a env) λx=>do noteFrame x env;theTreesLotGoes x) _ _ c
 refine wpAny_noted ?_;rw[compTurn_list];refine bt (VI (bt (uz (turn n c hw) (λd g t=>?_) λ_ _ z=>z.elim)))
 cases d with
 | none=>exact eR t
 | some u =>
  refine bt (uz t (λ_ o B=>?_) λ_ _ z=>z.elim)
  refine bt (uz B (λ_ p C=>?_) λ_ _ z=>z.elim)
  refine bt (uz C (λok h v=>?_) λ_ _ z=>z.elim)
  cases ok with
  | false=>exact eR (Zx rfl v)
  | true =>
   refine bt (bt (uz v (λy q D=>?_) λ_ _ z=>z.elim))
   refine bt (uz D (λ_ r E=>?_) λ_ _ z=>z.elim)
   exact eR (eR (Zx rfl E))
end
theorem sJ (env):∀(names:List (eT×Vs)) (cs:List (eT×cW)),(∀y∈names,y.2=.free->∃c,env.cells.lookup y.1=some c) ->
  (∀x c,cs.lookup x=some c->env.cells.lookup x=some c) ->
  ∃d:List (eT×cW),(forIn names cs (λ(x:eT×Vs) (r:List (eT×cW))=>if (x.2 == uy)=true then (do let a <- cellOf env x.1;pure (WX ((x.1,a)::r))) else pure (WX r)):Zb (List (eT×cW)))=pure d /\
   (∀x c,d.lookup x=some c->env.cells.lookup x=some c)/\(∀x,(cs.lookup x).isSome=true->(d.lookup x).isSome=true)/\∀y∈names,y.2=.free->(d.lookup y.1).isSome=true
 | [],cs,_,f=>⟨cs,by simp,f,λ_ h=>h,λ_ h=>by simp at h⟩
 | (n,k)::r,cs,s,f=>by
  have t:∀y∈r,y.2=.free->∃c,env.cells.lookup y.1=some c:=λy b=>s y (ew _ b)
  by_cases m:k=.free
  ·subst m;obtain⟨c,u⟩:=s (n,.free) eH rfl;have v:∀x g,((n,c)::cs).lookup x=some g->env.cells.lookup x=some g:=λx g e=>by
    rw[um] at e;cases hx:x == n with
    | true =>
     rw[hx] at e;have:x=n:=by simpa using hx
     subst this;simp at e;simp only[u,e]
    | false =>
     rw[hx] at e;exact f x g e
   obtain⟨d,o,p,i,q⟩:=sJ env r ((n,c)::cs) t v;refine⟨d,?_,p,λx hx=>i x ?_,λy b j=>?_⟩
   ·rw[UW];have l:cellOf env n=pure c:=by unfold cellOf;rw[u]
    simp only[beq_self_eq_true,if_true,l,pure_bind];exact o
   ·rw[um];cases x == n <;> simp[hx]
   ·rcases cR.mp b with rfl | b
    ·exact i _ (by simp[um])
    ·exact q y b j
  ·obtain⟨d,o,p,i,q⟩:=sJ env r cs t f;refine⟨d,?_,p,i,λy b j=>?_⟩
   ·rw[UW];have:(k == uy)=false:=by simpa using m
    simp only[this,mA,if_false,pure_bind];exact o
   ·rcases cR.mp b with rfl | b
    ·exact absurd j m
    ·exact q y b j
def yy (h:∀y∈scope.names,y.2=.free->∃c,env.cells.lookup y.1=some c) :
  ∃a,closureFor scope env=pure a/\(∀x c,a.lookup x=some c->env.cells.lookup x=some c)/\∀y∈scope.names,y.2=.free->(a.lookup y.1).isSome=true:=by
 obtain⟨a,b,d,_,f⟩:=sJ env scope.names [] h (λ_ _ e=>by simp at e)
 refine⟨a,?_,d,f⟩;dsimp only[closureFor];simp only[<- b];simp only[bind_pure]
theorem pH [BEq a][LawfulBEq a]:∀{l:List (a×b)}{x:a}{k:b},l.lookup x=some k->(x,k)∈l
 | [],_,_,h=>by simp at h
 | (n,k')::r,x,k,h=>by
  rw[um] at h;cases hx:x == n with
  | true =>
   rw[hx] at h;have:x=n:=by simpa using hx
   subst this;simp at h;subst h;exact eH
  | false =>
   rw[hx] at h;exact ew _ (pH h)
theorem uW (env:WK):∀(names:List (eT×Vs)) (x:eT),
  (names.map λ(n,k)=>if (k == uy && env.scope.kind == .function && env.kindOf n == some .cell) then (n,Xv) else (n,k)).lookup x =
   (names.lookup x).map λk=>if (k == uy && env.scope.kind == .function && env.kindOf x == some .cell) then Xv else k
 | [],_=>rfl
 | (n,k)::r,x=>by
  rw[gi];cases hx:x == n with
  | true =>
   have e:x=n:=by simpa using hx
   subst e
   by_cases a:(k == uy && env.scope.kind == .function && env.kindOf x == some .cell)=true
   ·simp only[a,if_true,um,beq_self_eq_true,px]
   ·simp only[a,if_false,um,beq_self_eq_true,px,mA]
  | false =>
   have b:=uW env r x
   by_cases a:(k == uy && env.scope.kind == .function && env.kindOf n == some .cell)=true
   ·simp only[a,if_true,um,hx];exact b
   ·simp only[a,if_false,um,hx,mA];exact b
def JC (h:scope.names.lookup x=some .free):(VZ scope env).names.lookup x=some .cell\/(VZ scope env).names.lookup x=some .free:=by
 unfold VZ;simp only[uW,h];simp only[px];split
 ·exact .inl rfl
 ·exact .inr rfl
theorem Ec (c:∀y∈scope.names,y.2≠.cell)(h:(VZ scope env).names.lookup x=some .cell\/(VZ scope env).names.lookup x=some .free):scope.names.lookup x=some .free:=by
 unfold VZ at h;rw[uW] at h;cases e:scope.names.lookup x with
 | none=>simp only[e] at h;simp at h
 | some k =>
  simp only[e] at h;have d:=c _ (pH e);simp only[px] at h
  by_cases a:(k == uy)=true
  ·rw[show k=uy by simpa using a]
  ·have b:(k == uy)=false:=by simpa using a
   simp only[b,Wb,mA,if_false] at h
   rcases h with h | h
   ·exact absurd (Option.some.inj h) d
   ·rw[Option.some.inj h]
noncomputable def bT (X:Cx) (NB:List eT) (scope:z4) (b:List (eT×cW)) (C:cW) (a:cA) (H:Hp) (c:List cW):Cx :=
 { X with N:=NB,cY:=a,pL:=H,env:=compEnvC scope b C X.env,outer:=X.stack,ex:=c,fn:=λ_=>false,pn:=[],xe:=λ_ _=>False }
noncomputable def d9 (caps:List (Option Nat)) (a:St):St:=caps.map λo=>o.bind λj=>(a[j]?).join
noncomputable def fH (N NB:List eT) (a:z4) (caps:List (Option Nat)):Bool :=
 caps.length == NB.length && (lp caps.length).all λi=>match caps[i]? with
  | some (some j)=>(match NB[i]?,N[j]? with | some x,some y=>x == y && a.names.lookup x == some .free | _,_=>false)
  | _=>true
def Ea (h:fH N NB a caps=true):(d9 caps b).length=NB.length:=by
 unfold fH at h;rw[dV] at h;simp only[d9,a8];simpa using h.1
theorem L8 {N NB:List eT}{d:z4}{b:St}{caps:List (Option Nat)}{i:Nat}{x:eT}{v:V}(h:fH N NB d caps=true) (k:NB[i]? = some x) (a:(d9 caps b)[i]? = some (some v)) :
  d.names.lookup x=some .free/\∃j:Nat,N[j]? = some x/\b[j]? = some (some v)/\caps[i]? = some (some j):=by
 unfold fH at h;rw[dV] at h;unfold d9 at a;rw[cn] at a;cases e:caps[i]? with
 | none=>rw[e] at a;cases a
 | some o =>
  rw[e] at a;cases o with
  | none=>cases a
  | some j =>
   have f:i < caps.length:=(bc.mp e).1;have q:=j4.mp h.2 i (Uh.mpr f);rw[e] at q;dsimp only at q;rw[k] at q;cases c:N[j]? with
   | none=>rw[c] at q;cases q
   | some y =>
    rw[c] at q;dsimp only at q;simp only[dV] at q;have l:x=y:=by simpa using q.1
    subst l;refine⟨by simpa using q.2,j,c,?_,rfl⟩
    simp only[px,a5,U8] at a;cases g:b[j]? with
    | none=>rw[g] at a;cases a
    | some z =>
     rw[g] at a;have a:z=some v:=a;rw[a]
structure gR (sc:z4) (scope:z4):Prop where
 kind:scope.kind=.function
 yG:∀y∈scope.names,y.2≠.cell
 loc:∀y∈scope.names,y.2=.local->scope.names.lookup y.1=some .local
 free:∀y∈scope.names,y.2=.free->sc.names.lookup y.1=some .cell\/sc.names.lookup y.1=some .free
section
variable {X:Cx}{pins:List (cW×tm)}{σ:St}{H:Hp}{s:cA}{NB:List eT}{scope:z4}
def FU (I:Inv X pins σ H s)(S:gR X.env.scope scope)(f:fH X.N NB scope caps=true)(a:∀x c,A.lookup x=some c->X.env.cells.lookup x=some c)(t:∀y∈scope.names,y.2=.free->(A.lookup y.1).isSome=true)(M:d.Ns s.heap.objs.size λ_=>none)(keep:∀b o,s.heap.get? b=some o->d.get? b=some o)(g:∀b∈L,hX X pins H b/\b < s.heap.objs.size) :
  Inv (bT X NB scope A s.heap.objs.size s H L) [] (d9 caps σ) H { s with heap:=d,toks:=tk }:=by
 have hC:X.env.locals < s.heap.objs.size:=I.lt;refine⟨⟨I.ok.mod,?_,I.ok.glob,I.ok.blt,eS _,λx y c B C=>?_,λx hx=>?_,λx c h=>?_,I.ok.hd,I.ok.frames,.inl rfl,λb n=>?_,λb o e=>?_,pA I.ok.jQ I.sz,λb o e n=>?_,λb n R=>?_,I.stack,I.A5⟩,
  rfl,I.bare,Un.kept keep,⟨_,M,λi x v B C h3=>?_⟩,λx c h=>?_,I.ai.fresh (eS _),λx c h=>?_,λp T=>absurd (show p∈([]:List (cW×tm)) from T) (by simp),I.ai.kept keep,Ea f⟩
 ·exact S.kind
 ·exact I.ok.inj x y c (a x c B) (a y c C)
 ·have q:scope.names.lookup x=some .free:=Ec S.yG hx;exact Ut.mp (t _ (pH q) rfl)
 ·exact absurd h (by show ¬(false=true);simp)
 ·obtain⟨⟨O,D,E,F,G,P⟩,lt⟩:=g b n;exact⟨gW lt,λx c e=>G x c (a x c e)⟩
 ·exact I.bs b o e
 ·obtain⟨⟨O,D,E,F,G,P⟩,lt⟩:=g b n
  rcases F with z | z
  ·exact I.ok.oE b o e z
  ·exact absurd (hQ (hQ (fj e) I.ok.jQ) z) (qp _)
 ·obtain⟨⟨O,D,E,F,G,P⟩,lt⟩:=g b n
  rcases cR.mp (I.rj b R) with z | z
  ·exact D z
  ·exact E z
 ·obtain⟨q,j,U,V,_⟩:=L8 f B C;obtain⟨m,hn,W⟩:=I.loc;have J:=S.free _ (pH q) rfl;have Y:cc X.env.scope x:=.inr J;obtain⟨u,r,l⟩:=W j x v U V Y;refine⟨u,r,.inr ⟨JC q,?_⟩⟩;obtain⟨c,Q⟩:=Ut.mp (t _ (pH q) rfl);refine⟨c,Q,?_⟩
  rcases l with⟨k,_⟩ | ⟨_,c',w,z⟩
  ·have k:X.env.scope.names.lookup x=some .local:=k;rw[k] at J
   rcases J with z | z <;> cases z
  ·rw[a x c Q] at w;cases w;obtain⟨o,K,hd⟩:=z;exact⟨o,keep c o K,hd⟩
 ·obtain⟨v,o,K,hd⟩:=I.cell x c (a x c h);exact⟨v,o,keep c o K,hd⟩
 ·exact I.gz x c (a x c h)
end
noncomputable def PF (X:Cx) (ifs:List gs) (t:TT):Prop :=
 ∀(a:List (cW×tm)) (s:cA) (b:St) (H:Hp) (Q:Bool->Hp->Prop),Inv X a b H s->t b H Q ->
  hE (hR X.prog X.w) X.A (CQ ifs X.env) (TP X a b Q) X.xe s
noncomputable def Dw:TT:=λ_ H Q=>Q true H
def FW:PF X [] Dw:=λ_ _ _ H _ I h=>wpAny_tests_nil ⟨H,I,h⟩
def FD (h:PT X c t):PF X [c] t:=λa s b H Q I d=>wpAny_tests_one (h a s b H Q I d)
noncomputable def rV (caps:St->St) (n:TI) (g:TG) (tc:TT) (te:TE):TE:=λh H Q=>n h H λJ j=>∀D,j D=none->∃W:Nat->Nat->St->Hp->Prop,
 (∃m,W 0 m (caps h) (upd j D (.lst [])))/\∀i m e c,W i m e c ->
  (J.stop i c/\Q (.ref D) c)\/(J.go i c/\∀x f,J.lS i c x f->g x e f λa o=>tc a o λb k =>
   if b=true then te a k λy l=>∃ys,l D=some (.lst ys)/\ys.length < bg/\∃d,d < m/\W (i + 1) d a (upd l D (.lst (ys++[y])))
   else ∃d,d < m/\W (i + 1) d a k)
section
variable {X:Cx}{pins:List (cW×tm)}{σ:St}{s₂:cA}{NB:List eT}{scope:z4}{E:b8->cA->Prop}
def Cf {caps:List (Option Nat)}{elt iter tg:gs}{ifs:List gs}{pos:qe}{it:cW}{f:List cW}{U:Nat->m3->Prop}{J:It}{j:Hp}{g:TG}{tc:TT}{te:TE}{k:List (eT×cW)}{Q:VK}{RR:b8->cW->Yh->cA->Prop}
  (I2:Inv X pins σ j s₂) (T:Turn X.prog X.w X.K tg J f it U) (Pc:U 0 s₂.heap) (f2:∀b∈f,hX X pins j b) (hc:X.calm=true) (S:gR X.env.scope scope) (Pn:fH X.N NB scope caps=true)
  (Pd:∀x c,k.lookup x=some c->X.env.cells.lookup x=some c) (PC:∀y∈scope.names,y.2=.free->(k.lookup y.1).isSome=true)
  (h:∀(k:List (eT×cW)) (C:cW) (a:cA) (H:Hp) (f:List cW),PG (bT X NB scope k C a H f) tg g/\PF (bT X NB scope k C a H f) ifs tc/\PE (bT X NB scope k C a H f) elt te)
  (hW:∀D,j D=none->∃W:Nat->Nat->St->Hp->Prop,(∃m,W 0 m (d9 caps σ) (upd j D (.lst [])))/\∀i m G l,W i m G l ->
   (J.stop i l/\Q (.ref D) l)\/(J.go i l/\∀x Pe,J.lS i l x Pe->g x G Pe λO j=>tc O j λb H3 =>
    if b=true then te O H3 λy H4=>∃ys,H4 D=some (.lst ys)/\ys.length < bg/\∃F,F < m/\W (i + 1) F O (upd H4 D (.lst (ys++[y])))
    else ∃F,F < m/\W (i + 1) F O H3))
  (PJ:∀D C l s' m,Inv X pins σ l s'->s'.heap.Ns C m->hX X pins l C->Q (.ref D) l->RR (.ref D) C (.ok .next) s') :
  hE (hR X.prog X.w) X.A (newList []) (λPf a=>hE (hR X.prog X.w) X.A (newFunctionEnv scope X.env.globals k [] X.env.qual none .none (some X.env)) (λbe L =>
   Ve (hR X.prog X.w) X.A (.compStart (.ListComp elt [⟨tg,iter,ifs,0⟩] scope pos) 0 (.ref it) Pf { be with scope:=VZ scope X.env }) (RR Pf be.locals) L) E a) E s₂:=by
 refine sH (wpAny_newFunctionEnv S.yG (by intro y hy;simp at hy) (λs t B=>?_) S.kind)
 have I3:Inv X pins σ (upd j s₂.heap.objs.size (.lst [])) { s₂ with heap:=s₂.heap.push { cls:=.type "list",data:=.seq ([]:List b8).toArray },toks:=s₂.toks } :=
  I2.sd (its:=[]) .nil (qh _)
 obtain⟨W,⟨m0,w0⟩,hW⟩:=hW s₂.heap.objs.size I2.fresh;generalize yq:({ s₂ with heap:=s₂.heap.push { cls:=.type "list",data:=.seq ([]:List b8).toArray },toks:=s₂.toks }:cA)=a at I3
 have es3:({ s₂ with heap:=s₂.heap.push { cls:=.type "list",dict:=none,data:=.seq ([]:List b8).toArray } }:cA)=a:=yq
 have O4:s₂.heap.push { cls:=.type "list",dict:=none,data:=.seq ([]:List b8).toArray }=a.heap:=congrArg (·.heap) yq;have et3:s₂.toks=a.toks:=congrArg (·.toks) yq
 have hsz:s₂.heap.objs.size < a.heap.objs.size:=by rw[<- O4,Ug];exact UK _
 dsimp only at t B ⊢
 (try rw[O4] at t B)
 have keep:∀b o,a.heap.get? b=some o->s.get? b=some o:=λb o e=>B.extBut b o (gW (fj e)) (el _ e)
 have PK:∀b o,s₂.heap.get? b=some o->a.heap.get? b=some o:=λb o e=>by rw[<- O4];exact el _ e
 have P:∀b∈f,hX X pins (upd j s₂.heap.objs.size (.lst [])) b/\b < a.heap.objs.size:=λb h=>by
  obtain⟨o,e,_⟩:=T.obj _ _ Pc b h;have lt:=fj e;exact⟨⟨by rw[aA (gW lt)];exact (f2 b h).1,(f2 b h).2⟩,TN lt hsz⟩
 have PL:U 0 s:=T.keep _ _ _ Pc λb _ o e=>keep b o (PK b o e)
 have PM:s.Ns a.heap.objs.size λ_=>none:=t
 have IB:Inv (bT X NB scope k a.heap.objs.size a (upd j s₂.heap.objs.size (.lst [])) f) [] (d9 caps σ) (upd j s₂.heap.objs.size (.lst [])) { a with heap:=s,toks:=a.toks + ([]:List (eT×b8)).length } :=
  FU I3 S Pn Pd PC PM keep P
 have ot:U 0 ({ a with heap:=s,toks:=a.toks + ([]:List (eT×b8)).length }:cA).heap:=PL
 generalize ({ a with heap:=s,toks:=a.toks + ([]:List (eT×b8)).length }:cA)=L at IB ot ⊢
 have O5:∀{l:Hp},(∀b∈f,l b=none)->∀b∈f,hX (bT X NB scope k a.heap.objs.size a (upd j s₂.heap.objs.size (.lst [])) f) [] l b:=λhn b h=>by
  obtain⟨⟨f0,f1,Pg,f3,f4,f5⟩,lt⟩:=P b h;refine⟨hn b h,gW lt,λhm=>?_,.inl h,λx c e=>f4 x c (Pd x c e),λp hp=>absurd (show p∈([]:List (cW×tm)) from hp) (by simp)⟩
  rcases cR.mp (I2.rj b hm) with z | z
  ·exact f1 z
  ·exact Pg z
 obtain⟨bG,bF,bE⟩:=h k a.heap.objs.size a (upd j s₂.heap.objs.size (.lst [])) f;have O7:Ve (hR X.prog X.w) X.A (.compLoop (.ListComp elt [⟨tg,iter,ifs,0⟩] scope pos) 0 (.ref it) (.ref s₂.heap.objs.size) (compEnvC scope k a.heap.objs.size X.env)) (RR (.ref s₂.heap.objs.size) a.heap.objs.size) L:=by
  refine N1 (λn s'=>∃i G l,Inv (bT X NB scope k a.heap.objs.size a (upd j s₂.heap.objs.size (.lst [])) f) [] G l s'/\U i s'.heap/\(∀b∈f,l b=none)/\W i n G l) ?_ m0
   ⟨0,_,_,IB,ot,λb h=>(P b h).1.1,w0⟩
  rintro n s5 ⟨i,R,H5,I5,Ph,Pj,w5⟩
  rcases hW i n R H5 w5 with⟨stop,q⟩ | ⟨go,step⟩
  ·refine aB (T.done (bT X NB scope k a.heap.objs.size a (upd j s₂.heap.objs.size (.lst [])) f) rfl rfl rfl hc i [] s5 R H5 (λ_ _=>False) I5 (O5 Pj) Ph stop) λr s6 ⟨hr,V⟩=>?_
   subst hr;obtain⟨m,hn,_⟩:=V.loc;refine PJ _ _ H5 s6 m ?_ hn (I3.kB (eS _) V.free) q;refine I3.Ky (ch:=f) V.os V.base V.ai V.bare λb h=>?_
   obtain⟨⟨f0,f1,Pg,f3,f4,f5⟩,lt⟩:=P b h;exact⟨f3,f1,f4,f5⟩
  ·refine aB (T.item (bT X NB scope k a.heap.objs.size a (upd j s₂.heap.objs.size (.lst [])) f) rfl rfl rfl hc i [] s5 R H5 (λ_ _=>False) I5 (O5 Pj) Ph go) λr s6 ⟨u,hr,h6⟩=>?_
   subst hr;refine aB h6 λ_ s7 ⟨x,H7,I7,r7,y7,O8,P0⟩=>?_
   have P1:=I7.pinned (O5 P0) (T.obj _ _ O8);have back:∀{O9:St}{M:Hp}{Y:cA},Inv (bT X NB scope k a.heap.objs.size a (upd j s₂.heap.objs.size (.lst [])) f) ([]++oH f s7.heap) O9 M Y ->
     Inv (bT X NB scope k a.heap.objs.size a (upd j s₂.heap.objs.size (.lst [])) f) [] O9 M Y/\U (i + 1) Y.heap/\∀b∈f,M b=none:=λ{O9 M Y} Z=>by
    refine⟨Z.rC,T.keep _ _ _ O8 λb h o e=>(Z.pin (b,o) (lr _ (lr _ (sk h e)))).1,λb h=>?_⟩
    obtain⟨o,e,d⟩:=T.obj _ _ O8 b h;exact (Z.pin (b,o) (lr _ (lr _ (sk h e)))).2.1
   refine aB (bG _ s7 R H7 x u _ P1 r7 (step x H7 y7)) λ_ s8 ⟨I,H8,I8,q8⟩=>?_
   refine aB (bF _ s8 I H8 _ I8 q8) λok Y ⟨M,Z,q9⟩=>?_
   cases ok with
   | false =>
    obtain⟨F,hm,w9⟩:=q9;obtain⟨a1,a2,a3⟩:=back Z;exact⟨F,hm,i + 1,I,M,a1,a2,a3,w9⟩
   | true =>
    refine aB (bE _ Y I M _ Z q9) λv P5 ⟨y,Pk,P6,P7,ys,hD,hz,F,hm,P8⟩=>?_
    refine aB (yz _ P5 I Pk (.ref s₂.heap.objs.size) [y] (.ref s₂.heap.objs.size) [v] (λ_ Pl=>Pl=upd Pk s₂.heap.objs.size (.lst (ys++[y]))) P6 rfl (.cons P7 .nil) ⟨_,ys,y,rfl,rfl,hD,hz,rfl⟩) λ_ s11 ⟨_,Pl,P9,_,Qa⟩=>?_
    subst Qa;obtain⟨a1,a2,a3⟩:=back P9;exact⟨F,hm,i + 1,I,_,a1,a2,a3,P8⟩
 exact codeAny_compStart_list O7 (T.self _ 0 _ _ _ ot O7)
end
section
variable {X:Cx}{NB:List eT}{caps:List (Option Nat)}{scope:z4}{elt iter tg:gs}{ifs:List gs}{pos:qe}{wi:TI}{g:TG}{tc:TT}{te:TE}
def BB (E:X.calm=true) (S:gR X.env.scope scope) (j:fH X.N NB scope caps=true) (F:PI X tg iter wi)
  (k:∀(d:List (eT×cW)) (C:cW) (a:cA) (H:Hp) (f:List cW),PG (bT X NB scope d C a H f) tg g/\PF (bT X NB scope d C a H f) ifs tc/\PE (bT X NB scope d C a H f) elt te)
  (G:∀x,n5 iter X.env x=pure x:=by intro _;rfl):PE X (.ListComp elt [⟨tg,iter,ifs,0⟩] scope pos) (rV (d9 caps) wi g tc te):=by
 intro c s r H Q I h;obtain⟨d,i,t,u⟩:=yy (scope:=scope) (env:=X.env) (λy K l=>I.ok.has y.1 (S.free y K l))
 simp only[eval_ListComp];refine WY (use:=none) rfl G i S.kind S.loc (aB (F c s r H _ I h) λxv s₁ n=>aB n λitv s₂ p=>?_)
 obtain⟨it,f,tn,J,H2,rfl,L,T,v,M,O⟩:=p;refine Cf (NB:=NB) (RR:=λz C=>compPost (hR X.prog X.w) X.A X.xe none (EP X c r Q) z C) L T v M E S j t u k O ?_
 intro D C P s' m R U l q;refine⟨m,U,λh' B=>⟨.ref D,P,?_,rfl,q⟩⟩
 obtain⟨V,W,f2',Y,Z,f5⟩:=l;exact R.turned (t':=s'.toks) (λb o k e=>(B.2 b k).trans e) V W Y Z f5
def OI (hN:X.N.Nodup)(G:X.N[i]? = some y)(p:Loc X.env.scope y)(hc:X.calm=true)(S:gR X.env.scope scope)(r:fH X.N NB scope caps=true)(hi:PI X tg iter wi)(t:∀(k:List (eT×cW)) (C:cW) (c:cA) (H:Hp) (l:List cW),PG (bT X NB scope k C c H l) tg g/\PF (bT X NB scope k C c H l) ifs tc/\PE (bT X NB scope k C c H l) elt te)(K:r0 (.ListComp elt [⟨tg,iter,ifs,0⟩] scope pos) (some (.Name y py)) f.line X.env=pure true)(hs:∀x,n5 iter X.env x=pure x:=by intro _;rfl)(u:X.fn y=true\/X.env.scope.names.lookup y=some .local:=by first | exact .inl rfl | exact .inr rfl | assumption) :
  PS X (.Assign [.Name y py] (.ListComp elt [⟨tg,iter,ifs,0⟩] scope pos) f) (uR (rV (d9 caps) wi g tc te) (qB i)):=by
 intro d s L H D I h;obtain⟨k,n,M,O⟩:=yy (scope:=scope) (env:=X.env) (λy p u=>I.ok.has y.1 (S.free y p u))
 rw[exec_Assign_Name_used _ _ _ _ K];refine bt (VI (bt ?_));show hE _ X.A (do let _ <- comprehension (.ListComp elt [⟨tg,iter,ifs,0⟩] scope pos) scope X.env _ (newList []) false (eval iter X.env) (some (T8 (.Name y py) X.env))) _ _ s
 refine bt (uz (WY (use:=some (T8 (.Name y py) X.env)) (Q:=λ_ s'=>SP X d D .next s') rfl hs n S.kind S.loc (aB (hi d s L H _ I h) λxv s₁ B=>aB B λitv s₂ E=>?_)) (λ_ s' hq=>eR (eR hq)) λ_ _ e=>e)
 obtain⟨it,l,tn,J,H2,rfl,I2,T,P,f2,hW⟩:=E;refine Cf (NB:=NB) (RR:=λR C=>compPost (hR X.prog X.w) X.A X.xe (some (T8 (.Name y py) X.env)) (λ_ s'=>SP X d D .next s') R C) (Q:=λx H1=>qB i x L H1 D.nx) I2 T P f2 hc S r M O t hW ?_
 intro U C H' s' m I' hn V q;obtain⟨f0,W,f2',f3,Y,f5⟩:=V;show hE _ X.A (T8 (.Name y py) X.env (.ref U)) _ _ _;refine Yr (zr (v:=.ref U) I' hN G p rfl (λZ be j=>?_) u)
 obtain⟨a,j,ha⟩:=j;have yq:C≠a:=by
  rintro rfl
  rcases ha with z | z
  ·exact W z
  ·exact Y _ _ z rfl
 refine⟨m,hn.sameBut j yq,λh' F=>?_⟩
 exact⟨_,H',be.turned (t':=Z.toks) (λb o t e=>(F.2 b t).trans e) f0 W f3 Y f5,q⟩
end
section
variable {P:hJ}{w:kq}{H:Hp}{h h':m3}{a:cW}{o:HO}
theorem cB.alive (x:cB P w H h a o):∃u,h.get? a=some u:=by
 cases o with
 | lst xs=>obtain⟨z,its,n,r,e⟩:=x;exact⟨_,e⟩
 | tup xs=>obtain⟨z,its,r,b,e,c⟩:=x;exact⟨_,e⟩
 | dK kvs=>obtain⟨z,y,vs,r,b,g,ep,e,c⟩:=x;exact⟨_,e⟩
 | dT kvs=>obtain⟨z,y,xs,r,b,g,ep,e,c⟩:=x;exact⟨_,e⟩
 | set S n=>obtain⟨b,g,ep,t,e,c⟩:=x;exact⟨_,e⟩
 | ins C dx fs=>obtain⟨d,z,ne,e,i,_⟩:=x;exact⟨_,e⟩
 | own y=>exact x
 | xd fs=>obtain⟨i,⟨od,g,ep,e,c⟩,r⟩:=x;exact⟨_,e⟩
 | ou lo hi=>obtain⟨t,u,v,e⟩:=x;exact⟨_,e⟩
 | ba b u=>obtain⟨e,q⟩:=x;exact⟨_,e⟩
 | jJ ps=>exact⟨_,x⟩
 | met f y=>exact⟨_,x⟩
 | ext φ=>obtain⟨p,e,st⟩:=x;exact e
def bS.tracked (x:bS P w H h) (k:∀b u,H b≠none->h.get? b=some u->h'.get? b=some u):bS P w H h':=λc d e =>
 (x c d e).ij (λb u f q=>k b u (by
  rcases f with z | z
  ·rw[z,e];simp
  ·rw[z];simp) q) (λ_ q=>q) λ_ _ q=>q
theorem bS.dead (x:bS P w H h) (e:h.get? a=none):H a=none:=by
 cases q:H a with
 | none=>rfl
 | some u=>obtain⟨v,z⟩:=(x a u q).alive;rw[e] at z;cases z
end
structure Flt (av:List cW) (H:Hp) (h₀:m3) (a:cW) (cls fl:b8) (h:m3):Prop where
 ex:∃(a0:b8) (T:cW) (oe oT:tm) (vs ts:Array b8),h.get? a=some oe/\oe.cls=cls/\oe.data=.fields vs/\vs[0]? = some a0/\vs[1]? = some (.ref T)/\T≠a/\h.get? T=some oT/\oT.data=.fields ts/\ts[3]? = some fl/\H T=none/\h₀.get? T=none/\T∉av
 na:H a=none
 nw:h₀.get? a=none
 nv:a∉av
section
variable {X:Cx}{pins:List (cW×tm)}{σ:St}{H:Hp}{s:cA}
noncomputable abbrev Ld (X:Cx) (pins:List (cW×tm)):List Addr:=(X.pn++pins).map (·.1)
end
noncomputable def Gq (X:Cx) (d:St) (c:b8) (a:cW) (H:Hp):Prop:=∀(b:List (cW×tm)) (s:cA),Inv X b d H s->Flt (Ld X b) H X.cY.heap a c .none s.heap->X.xe (.ref a) s
noncomputable def HL (X:Cx) (c:St) (C:cW) (H:Hp):Prop:=∀(b:List (cW×tm)) (s:cA) (h':m3) (a:cW) (vs:List b8),Inv X b c H s->Heap.MadeExcOf s.heap h' a (.ref C) vs->X.xe (.ref a) { s with heap:=h' }
open PySem PySem.Spec PyProof.Rows
noncomputable def Oy (a:Addr) (cls:Value) (h:Heap):Prop:=∃o vs,h.get? a=some o/\o.cls=cls/\o.data=.fields vs
noncomputable def excAt (a:Addr) (b:Value):HO:=.ext (Oy a b)
end L2
end
section
namespace DV
open PySem PySem.Spec PyProof.Rows L2
noncomputable abbrev St:=L2.St
inductive Dat where
 | aK | bl (b:Bool) | int (i:Int) | str (x:eT)
 | tup (xs:List Dat) | lst (xs:List Dat) | bN (ks:List (eT×Dat))
 | exc (C:cW)
 | ins (C:cW×cW) (fs:List (eT×Dat))
 | cU (ns:List Int)
 | adr (p:cW)
 /-- a dict that is gone through: its object stays as it is -/
 | dE (ks:List (eT×Dat))
 /-- a dict whose keys are tuples of texts;fz: gone through,its object stays as it is -/
 | aY (fz:Bool) (ks:List (List eT×Dat))
mutual
/-- the value v is the datum d,over the heap H (and the module's own objects) -/
noncomputable def Rep (K:gj) (H:Hp):Dat->V->Prop
 | .aK,v=>v=.aK
 | .bl b,v=>v=.bl b
 | .int i,v=>v=.int i
 | .str x,v=>v=.str x
 | .tup ds,v=>∃p vs,v=.ref p/\bb K H p vs/\ay K H ds vs
 | .lst ds,v=>∃p vs,v=.ref p/\Rd H p (.lst vs)/\ay K H ds vs
 | .bN a,v=>∃p kvs,v=.ref p/\H p=some (.dK kvs)/\bH K H a kvs
 | .exc C,v=>∃p,v=.ref p/\H p=some (excAt p (.ref C))
 | .ins C fs,v=>∃p c vs,v=.ref p/\H p=some (.ins C.1 c vs)/\lh K H fs vs/\p=C.2
 | .cU e,v=>∃p,v=.ref p/\cb K H p (e.map V.int)
 | .adr p,v=>v=.ref p
 | .dE a,v=>∃p o kvs,v=.ref p/\H p=some (.ba o (.dK kvs))/\bH K H a kvs
 | .aY f a,v=>∃p o kvs,v=.ref p/\H p=some (if f then .ba o (.dT kvs) else .dT kvs)/\bP K H a kvs
noncomputable def ay (K:gj) (H:Hp):List Dat->List V->Prop
 | [],vs=>vs=[]
 | d::ds,vs=>∃v r,vs=v::r/\Rep K H d v/\ay K H ds r
noncomputable def bH (K:gj) (H:Hp):List (eT×Dat)->List (Key×V)->Prop
 | [],kvs=>kvs=[]
 | (k,d)::a,kvs=>∃v r,kvs=(nE k,v)::r/\Rep K H d v/\bH K H a r
noncomputable def bP (K:gj) (H:Hp):List (List eT×Dat)->List (List Key×V)->Prop
 | [],kvs=>kvs=[]
 | (k,d)::a,kvs=>∃v r,kvs=(k.map nE,v)::r/\Rep K H d v/\bP K H a r
noncomputable def lh (K:gj) (H:Hp):List (eT×Dat)->List (eT×V)->Prop
 | [],kvs=>kvs=[]
 | (k,d)::a,kvs=>∃v r,kvs=(k,v)::r/\Rep K H d v/\lh K H a r
end
section
variable {K:W.Frag}{H H':Hp}
def bb.mono (s:af H H')(h:bb K H p vs):bb K H' p vs:=by
 rcases h with (h | ⟨o,h⟩) | h
 ·exact .inl (.inl (s _ _ h))
 ·exact .inl (.inr ⟨o,s _ _ h⟩)
 ·exact .inr h
def cb.mono (s:af H H')(h:cb K H p vs):cb K H' p vs:=by
 rcases h with (h | ⟨o,h⟩) | h
 ·exact .inl (.inl (s _ _ h))
 ·exact .inl (.inr ⟨o,s _ _ h⟩)
 ·exact .inr h
def Rd.mono (s:af H H')(h:Rd H p u):Rd H' p u:=by
 rcases h with h | ⟨o,h⟩
 ·exact .inl (s _ _ h)
 ·exact .inr ⟨o,s _ _ h⟩
mutual
theorem Rep.mono (s:af H H'):∀{d:Dat}{v:V},Rep K H d v->Rep K H' d v
 | .aK,_,h=>h
 | .bl _,_,h=>h
 | .int _,_,h=>h
 | .str _,_,h=>h
 | .tup _,_,⟨p,vs,e,q,r⟩=>⟨p,vs,e,bb.mono s q,ay.mono s r⟩
 | .lst _,_,⟨p,vs,e,q,r⟩=>⟨p,vs,e,Rd.mono s q,ay.mono s r⟩
 | .bN _,_,⟨p,kvs,e,q,r⟩=>⟨p,kvs,e,s _ _ q,bH.mono s r⟩
 | .exc _,_,⟨p,e,q⟩=>⟨p,e,s _ _ q⟩
 | .ins _ _,_,⟨p,b,vs,e,q,r,z⟩=>⟨p,b,vs,e,s _ _ q,lh.mono s r,z⟩
 | .cU _,_,⟨p,e,q⟩=>⟨p,e,cb.mono s q⟩
 | .adr _,_,h=>h
 | .dE _,_,⟨p,o,kvs,e,q,r⟩=>⟨p,o,kvs,e,s _ _ q,bH.mono s r⟩
 | .aY _ _,_,⟨p,o,kvs,e,q,r⟩=>⟨p,o,kvs,e,s _ _ q,bP.mono s r⟩
theorem ay.mono (s:af H H'):∀{ds:List Dat}{vs:List V},ay K H ds vs->ay K H' ds vs
 | [],_,h=>h
 | _::_,_,⟨v,r,e,q,t⟩=>⟨v,r,e,Rep.mono s q,ay.mono s t⟩
theorem bH.mono (s:af H H'):∀{a:List (Str×Dat)}{kvs:List (Key×V)},bH K H a kvs->bH K H' a kvs
 | [],_,h=>h
 | (_,_)::_,_,⟨v,r,e,q,t⟩=>⟨v,r,e,Rep.mono s q,bH.mono s t⟩
theorem bP.mono (s:af H H'):∀{a:List (List Str×Dat)}{kvs:List (List Key×V)},bP K H a kvs->bP K H' a kvs
 | [],_,h=>h
 | (_,_)::_,_,⟨v,r,e,q,t⟩=>⟨v,r,e,Rep.mono s q,bP.mono s t⟩
theorem lh.mono (s:af H H'):∀{a:List (Str×Dat)}{kvs:List (Str×V)},lh K H a kvs->lh K H' a kvs
 | [],_,h=>h
 | (_,_)::_,_,⟨v,r,e,q,t⟩=>⟨v,r,e,Rep.mono s q,lh.mono s t⟩
end
theorem ay.length:∀{ds:List Dat}{vs:List V},ay K H ds vs->vs.length=ds.length
 | [],_,h=>by rw[show _=[] from h];rfl
 | _::_,_,⟨v,r,e,q,t⟩=>by rw[e,fk,fk,ay.length t]
theorem ay.append:∀{ds a:List Dat}{vs b:List V},ay K H ds vs->ay K H a b->ay K H (ds++a) (vs++b)
 | [],_,_,_,h,h'=>by rw[show _=[] from h];exact h'
 | _::_,_,_,_,⟨v,r,e,q,t⟩,h'=>⟨v,r++_,by rw[e];rfl,q,ay.append t h'⟩
theorem ay.get:∀{ds:List Dat}{vs:List V}{i:Nat}{d:Dat},ay K H ds vs->ds[i]? = some d->∃v,vs[i]? = some v/\Rep K H d v
 | [],_,_,_,_,e=>by simp at e
 | _::_,_,0,_,⟨v,r,e,q,t⟩,h=>by
  simp at h;subst h;exact⟨v,by rw[e];rfl,q⟩
 | _::_,_,i + 1,d,⟨v,r,e,q,t⟩,h=>by
  obtain⟨w,a,b⟩:=ay.get (i:=i) (d:=d) t (by simpa using h)
  exact⟨w,by rw[e];simpa using a,b⟩
theorem ay.set:∀{ds:List Dat}{vs:List V}{d:Dat}{v:V}(i:Nat),ay K H ds vs->Rep K H d v->ay K H (ds.set i d) (vs.set i v)
 | [],_,_,_,_,h,_=>by rw[show _=[] from h];exact rfl
 | _::_,_,_,_,0,⟨v,r,e,q,t⟩,h=>⟨_,r,by rw[e];rfl,h,t⟩
 | _::_,_,_,_,i + 1,⟨v,r,e,q,t⟩,h=>⟨v,r.set i _,by rw[e];rfl,q,ay.set i t h⟩
end
inductive Slot where
 /-- nothing,data,a list or dict that this frame owns (its content),one that the caller owns and lends -/
 | no | dat (d:Dat) | own (d:Dat) | io (d:Dat)
noncomputable abbrev DS:=List Slot
inductive Res where
 | dat (d:Dat) | own (d:Dat)
noncomputable def Res.val:Res->Dat
 | .dat d=>d
 | .own d=>d
noncomputable def cu (K:W.Frag) (H a:Hp) (p:Addr):Dat->Prop
 | .lst ds=>∃vs,H p=some (.lst vs)/\ay K a ds vs/\a p=none
 | .bN b=>∃kvs,H p=some (.dK kvs)/\bH K a b kvs/\a p=none
 | .aY c b=>c=false/\∃kvs,H p=some (.dT kvs)/\bP K a b kvs/\a p=none
 | _=>False
noncomputable def iC (a H:Hp) (p:Addr) (o:HO):Prop:=a p=some o\/H p=none\/∃vs,o=.tup vs
noncomputable def fL (a:Nat->Option Addr) (p:Addr):Prop:=∃i,a i=some p
structure SR (K:W.Frag) (H0:Hp×Hp) (ps:Nat->Option Addr) (Z:DS) (σ:St) (H Hi:Hp):Prop where
 sub:af Hi H
 keep:∀b o,H0.1 b=some o->¬fL ps b->H b=some o
 eF:∀p,fL ps p->H p≠none
 dat:∀(i:Nat) (d:Dat),Z[i]? = some (.dat d)->∃v,σ[i]? = some (some v)/\Rep K Hi d v
 own:∀(i:Nat) (c:Dat),Z[i]? = some (.own c)->∃p,σ[i]? = some (some (.ref p))/\cu K H Hi p c/\¬fL ps p/\H0.1 p=none
 io:∀(i:Nat) (c:Dat),Z[i]? = some (.io c)->∃p,σ[i]? = some (some (.ref p))/\cu K H Hi p c/\ps i=some p
 ne:∀(i j:Nat) (c c':Dat) (p:Addr),(Z[i]? = some (.own c)\/Z[i]? = some (.io c))->(Z[j]? = some (.own c')\/Z[j]? = some (.io c'))->σ[i]? = some (some (.ref p))->σ[j]? = some (some (.ref p))->i=j
 len:Z.length=σ.length
 nw:∀p o,Hi p=some o->iC H0.2 H0.1 p o
noncomputable def RR (K:W.Frag) (e:Hp×Hp) (f:Nat->Option Addr) (Z:DS) (g:St) (H a:Hp) (v:V):Res->Prop
 | .dat d=>Rep K a d v
 | .own c=>∃p,v=.ref p/\cu K H a p c/\¬fL f p/\e.1 p=none/\∀(i:Nat) (b:Dat),(Z[i]? = some (.own b)\/Z[i]? = some (.io b))->g[i]?≠some (some (.ref p))
section
variable {K:W.Frag}{H0:Hp×Hp}{H Hi:Hp}{ps:Nat->Option Addr}{Z:DS}{σ:St}
theorem cu.some (h:cu K H Hi p c):(∃o,H p=some o)/\Hi p=none:=by
 cases c with
 | lst ds=>obtain⟨vs,e,_,n⟩:=h;exact⟨⟨_,e⟩,n⟩
 | bN a=>obtain⟨vs,e,_,n⟩:=h;exact⟨⟨_,e⟩,n⟩
 | aY fz a=>obtain⟨_,vs,e,_,n⟩:=h;exact⟨⟨_,e⟩,n⟩
 | _=>exact h.elim
theorem cu.nt (h:cu K H Hi p c)(e:H p=Option.some (.tup vs)):False:=by
 cases c with
 | lst ds=>obtain⟨vs,q,_⟩:=h;rw[q] at e;cases e
 | bN a=>obtain⟨vs,q,_⟩:=h;rw[q] at e;cases e
 | aY fz a=>obtain⟨_,vs,q,_⟩:=h;rw[q] at e;cases e
 | _=>exact h.elim
theorem cu.keeps (h:cu K H Hi p c)(e:b p=H p)(s:af Hi a)(n:a p=none):cu K b a p c:=by
 cases c with
 | lst ds=>obtain⟨vs,q,r,_⟩:=h;exact⟨vs,e.trans q,ay.mono s r,n⟩
 | bN d=>obtain⟨vs,q,r,_⟩:=h;exact⟨vs,e.trans q,bH.mono s r,n⟩
 | aY fz d=>obtain⟨z,vs,q,r,_⟩:=h;exact⟨z,vs,e.trans q,bP.mono s r,n⟩
 | _=>exact h.elim
def js (h:H p=none):af H (upd H p o):=λb u e=>by
 rw[aA (di e h)];exact e
def wH (s:af Hi H):af (upd Hi p o) (upd H p o):=λb u e=>by
 by_cases a:b=p
 ·subst a;rw[bu] at e ⊢;exact e
 ·rw[aA a] at e ⊢;exact s b u e
def Bv (s:af Hi H)(h:H p=some o):af (upd Hi p o) H:=λb u e=>by
 by_cases a:b=p
 ·subst a;rw[bu] at e;exact h.trans e
 ·rw[aA a] at e;exact s b u e
def qI (s:af Hi H)(h:Hi p=none):af Hi (upd H p o):=λb u e=>by
 rw[aA (di e h)];exact s b u e
theorem SR.dy (S:SR K H0 ps Z σ H Hi)(h:H p=none):Hi p=none:=by
 cases e:Hi p with
 | none=>rfl
 | some o=>rw[S.sub _ _ e] at h;cases h
theorem SR.bM (S:SR K H0 ps Z σ H Hi)(h:H p=none):H0.1 p=none/\¬fL ps p:=by
 have a:¬fL ps p:=λm=>S.eF p m h
 refine⟨?_,a⟩;cases e:H0.1 p with
 | none=>rfl
 | some o=>rw[S.keep _ _ e a] at h;cases h
def SR.laid (S:SR K H0 ps Z σ H Hi)(h:H p=none):SR K H0 ps Z σ (upd H p o) (upd Hi p o)/\af Hi (upd Hi p o):=by
 have j:=S.dy h;have sm:af Hi (upd Hi p o):=js j;have ne:∀{q:Addr}{c:Dat},cu K H Hi q c->q≠p:=λf=>di f.some.1.choose_spec h
 refine⟨⟨wH S.sub,λb u e n=>?_,λq m=>?_,λi d e=>?_,λi c e=>?_,λi c e=>?_,S.ne,S.len,λq u e=>?_⟩,sm⟩
 ·rw[aA (di (S.keep b u e n) h)];exact S.keep b u e n
 ·by_cases f:q=p
  ·subst f;rw[bu];simp
  ·rw[aA f];exact S.eF q m
 ·obtain⟨v,a,b⟩:=S.dat i d e;exact⟨v,a,Rep.mono sm b⟩
 ·obtain⟨q,a,b,g,k⟩:=S.own i c e;exact⟨q,a,b.keeps (aA (ne b)) sm (by rw[aA (ne b)];exact b.some.2),g,k⟩
 ·obtain⟨q,a,b,g⟩:=S.io i c e;exact⟨q,a,b.keeps (aA (ne b)) sm (by rw[aA (ne b)];exact b.some.2),g⟩
 ·by_cases f:q=p
  ·subst f;exact .inr (.inl (S.bM h).1)
  ·rw[aA f] at e;exact S.nw q u e
def SR.made (S:SR K H0 ps Z σ H Hi)(h:H p=none):SR K H0 ps Z σ (upd H p o) Hi:=by
 have g:=S.dy h;have ne:∀{q:Addr}{c:Dat},cu K H Hi q c->q≠p:=λd=>di d.some.1.choose_spec h
 refine⟨qI S.sub g,λb u e n=>?_,λq m=>?_,S.dat,λi c e=>?_,λi c e=>?_,S.ne,S.len,S.nw⟩
 ·rw[aA (di (S.keep b u e n) h)];exact S.keep b u e n
 ·by_cases d:q=p
  ·subst d;rw[bu];simp
  ·rw[aA d];exact S.eF q m
 ·obtain⟨q,a,b,f,j⟩:=S.own i c e;exact⟨q,a,b.keeps (aA (ne b)) (af.refl _) b.some.2,f,j⟩
 ·obtain⟨q,a,b,f⟩:=S.io i c e;exact⟨q,a,b.keeps (aA (ne b)) (af.refl _) b.some.2,f⟩
def SR.d6 (S:SR K H0 ps Z σ H Hi)(h:H p=none):∀(i:Nat) (c:Dat),(Z[i]? = some (.own c)\/Z[i]? = some (.io c))->σ[i]?≠some (some (.ref p)):=by
 rintro i c (e | e) z
 ·obtain⟨q,a,b,_⟩:=S.own i c e;rw[a] at z;cases z;rw[b.some.1.choose_spec] at h;cases h
 ·obtain⟨q,a,b,_⟩:=S.io i c e;rw[a] at z;cases z;rw[b.some.1.choose_spec] at h;cases h
theorem SR.freeze (S:SR K H0 ps Z σ H Hi)(h:RR K H0 ps Z σ H Hi v r):∃f,SR K H0 ps Z σ H f/\af Hi f/\Rep K f r.val v:=by
 cases r with
 | dat d=>exact⟨Hi,S,af.refl _,h⟩
 | own c =>
  obtain⟨p,rfl,k,np,t,nd⟩:=h;have go:∀o,H p=some o->(∃f,f=upd Hi p o/\SR K H0 ps Z σ H f/\af Hi f):=λo e=>by
   have w:=k.some.2;have sm:af Hi (upd Hi p o):=js w;refine⟨_,rfl,⟨Bv S.sub e,S.keep,S.eF,λi d g=>?_,λi l g=>?_,λi l g=>?_,S.ne,S.len,λq u g=>?_⟩,sm⟩
   ·obtain⟨v,a,b⟩:=S.dat i d g;exact⟨v,a,Rep.mono sm b⟩
   ·obtain⟨q,a,b,s,x⟩:=S.own i l g;have j:q≠p:=λz=>nd i l (.inl g) (by rw[a,z])
    exact⟨q,a,b.keeps rfl sm (by rw[aA j];exact b.some.2),s,x⟩
   ·obtain⟨q,a,b,s⟩:=S.io i l g;have j:q≠p:=λz=>nd i l (.inr g) (by rw[a,z])
    exact⟨q,a,b.keeps rfl sm (by rw[aA j];exact b.some.2),s⟩
   ·by_cases j:q=p
    ·subst j;exact .inr (.inl t)
    ·rw[aA j] at g;exact S.nw q u g
  cases c with
  | lst ds =>
   obtain⟨vs,e,r,n⟩:=k;obtain⟨f,rfl,m,sm⟩:=go _ e;exact⟨_,m,sm,p,vs,rfl,Rd.of bu,ay.mono sm r⟩
  | bN y =>
   obtain⟨vs,e,r,n⟩:=k;obtain⟨f,rfl,m,sm⟩:=go _ e;exact⟨_,m,sm,p,vs,rfl,bu,bH.mono sm r⟩
  | aY fz y =>
   obtain⟨rfl,vs,e,r,n⟩:=k;obtain⟨f,rfl,m,sm⟩:=go _ e;exact⟨_,m,sm,p,{ cls:=.none,data:=.fields #[] },vs,rfl,bu,bP.mono sm r⟩
  | _=>exact k.elim
end
noncomputable abbrev EF:=DS->Option (Res×DS)
noncomputable abbrev DF:=DS->Option (Dat×DS)
noncomputable abbrev BF:=DS->Option (Bool×DS)
noncomputable abbrev AF:=DS->Option (List Dat×DS)
structure DE (X:Cx) (e:Expr) (f:EF):Prop where
 ex:∃t,PE X e t/\∀(H0:Hp×Hp) (ps:Nat->Option Addr) (Z:DS) (σ:St) (H Hi:Hp) (r:Res) (Z':DS) (Q:VK),f Z=some (r,Z')->SR X.K H0 ps Z σ H Hi ->
 (∀v H' Hi',SR X.K H0 ps Z' σ H' Hi'->af Hi Hi'->RR X.K H0 ps Z' σ H' Hi' v r->Q v H')->t σ H Q
structure DD (X:Cx) (e:Expr) (f:DF):Prop where
 ex:∃t,PE X e t/\∀(H0:Hp×Hp) (ps:Nat->Option Addr) (Z:DS) (σ:St) (H Hi:Hp) (d:Dat) (Z':DS) (Q:VK),f Z=some (d,Z')->SR X.K H0 ps Z σ H Hi ->
 (∀v H' Hi',SR X.K H0 ps Z' σ H' Hi'->af Hi Hi'->Rep X.K Hi' d v->Q v H')->t σ H Q
structure DT (X:Cx) (e:Expr) (f:BF):Prop where
 ex:∃t,PT X e t/\∀(H0:Hp×Hp) (ps:Nat->Option Addr) (Z:DS) (σ:St) (H Hi:Hp) (b:Bool) (Z':DS) (Q:Bool->Hp->Prop),f Z=some (b,Z')->SR X.K H0 ps Z σ H Hi ->
 (∀H' Hi',SR X.K H0 ps Z' σ H' Hi'->af Hi Hi'->Q b H')->t σ H Q
structure DW (X:Cx) (e:Expr) (f:BF):Prop where
 ex:∃t,PW X e t/\∀(H0:Hp×Hp) (ps:Nat->Option Addr) (Z:DS) (σ:St) (H Hi:Hp) (b:Bool) (Z':DS) (Q:Bool->Hp->Prop),f Z=some (b,Z')->SR X.K H0 ps Z σ H Hi ->
 (∀H' Hi',SR X.K H0 ps Z' σ H' Hi'->af Hi Hi'->Q b H')->t σ H Q
structure DA (X:Cx) (es:List Expr) (f:AF):Prop where
 ex:∃t,PA X es t/\∀(H0:Hp×Hp) (ps:Nat->Option Addr) (Z:DS) (σ:St) (H Hi:Hp) (ds:List Dat) (Z':DS) (Q:List V->Hp->Prop),f Z=some (ds,Z')->SR X.K H0 ps Z σ H Hi ->
 (∀vs H' Hi',SR X.K H0 ps Z' σ H' Hi'->af Hi Hi'->ay X.K Hi' ds vs->Q vs H')->t σ H Q
noncomputable def fM (f:EF):DF:=λZ=>(f Z).map λp=>(p.1.val,p.2)
noncomputable def og (f:DF):EF:=λZ=>(f Z).map λp=>(.dat p.1,p.2)
section
variable {X:Cx}{e a b c:Expr}{pos:Pos}
def DW.dt (h:DW X e f):DT X e f:=let ⟨t,p,q⟩:=h;⟨t,p.pt,q⟩
theorem DE.dd (h:DE X e f):DD X e (fM f):=by
 obtain⟨t,p,q⟩:=h;refine⟨t,p,λm n Z o H s d Z' Q g S k=>?_⟩
 unfold fM at g;cases i:f Z with
 | none=>rw[i] at g;cases g
 | some u =>
  obtain⟨r,Z1⟩:=u;rw[i] at g;cases g;refine q m n Z o H s r Z1 Q i S λv w Hi' x s' y=>?_
  obtain⟨j,z,A,l⟩:=x.freeze y;exact k v w j z (s'.trans A) l
theorem DD.de (h:DD X e f):DE X e (og f):=by
 obtain⟨t,p,q⟩:=h;refine⟨t,p,λm n Z o H s r Z' Q g S k=>?_⟩
 unfold og at g;cases i:f Z with
 | none=>rw[i] at g;cases g
 | some u =>
  obtain⟨d,Z1⟩:=u;rw[i] at g;cases g;exact q m n Z o H s d Z1 Q i S λv w j x s' l=>k v w j x s' l
noncomputable def fC (d:Dat):DF:=λZ=>some (d,Z)
def pR (h:PE X e (tC v))(r:∀H,Rep X.K H d v):DD X e (fC d) :=
 ⟨_,h,λH0 ps Z σ H f d' Z' Q g S k=>by cases g;exact k v H f S (af.refl _) (r _)⟩
def Lo {i j}:DD X (.Constant (.int i) j pos) (fC (.int i)):=pR F0 λ_=>rfl
def J5 {i j}:DD X (.Constant (.bool i) j pos) (fC (.bl i)):=pR G6 λ_=>rfl
def HX {x j}:DD X (.Constant (.str x) j pos) (fC (.str x)):=pR zW λ_=>rfl
structure Glob (X:Cx) (x:Str) (d:Dat):Prop where
 gl:Gl X x
 is:∃v u,X.mg x=some u/\RelV v u/\∀H,Rep X.K H d v
def FT (h:Glob X x d)(hd:bJ x:=by decide):DD X (.Name x pos) (fC d):=by
 obtain⟨v,u,f,g,i⟩:=h.is;exact pR (Al h.gl f g hd) i
noncomputable def dF (i:Nat):DF:=λZ=>match Z[i]? with
 | some (.dat d)=>some (d,Z)
 | some (.own c)=>some (c,Z.set i (.dat c))
 | _=>none
def SR.Ad {K:W.Frag}{u:Hp×Hp}{H x:Hp}{y:Nat->Option Addr}{Z:DS}{o:St}{i:Nat}{c:Dat}(S:SR K u y Z o H x) (e:Z[i]? = some (.own c)) :
  ∃l v,o[i]? = some (some v)/\SR K u y (Z.set i (.dat c)) o H l/\af x l/\Rep K l c v:=by
 obtain⟨p,B,F,G,I⟩:=S.own i c e;have n:i < Z.length:=(bc.mp e).1;have J:SR K u y (Z.set i .no) o H x:=by
  have get:∀{j:Nat}{s:Slot},(Z.set i .no)[j]? = some s->s≠.no->j≠i/\Z[j]? = some s:=λ{j s} h C=>by
   by_cases f:j=i
   ·subst f;rw[iW n] at h;cases h;exact absurd rfl C
   ·rw[iN (Ne.symm f)] at h;exact⟨f,h⟩
  refine⟨S.sub,S.keep,S.eF,λj d h=>S.dat j d (get h (by simp)).2,λj g h=>S.own j g (get h (by simp)).2,λj g h=>S.io j g (get h (by simp)).2,λj k g t q D E=>?_,by rw[vj];exact S.len,S.nw⟩
  exact S.ne j k g t q (D.imp (λz=>(get z (by simp)).2) λz=>(get z (by simp)).2) (E.imp (λz=>(get z (by simp)).2) λz=>(get z (by simp)).2)
 have r:RR K u y (Z.set i .no) o H x (.ref p) (.own c):=by
  refine⟨p,rfl,F,G,I,λj g h z=>?_⟩
  have f:j≠i:=λw=>by
   subst w;rw[iW n] at h
   rcases h with h | h <;> cases h
  rw[iN (Ne.symm f)] at h;exact f (S.ne j i g c p h (.inl e) z B)
 obtain⟨l,m,L,A⟩:=J.freeze r;refine⟨l,.ref p,B,⟨m.sub,m.keep,m.eF,λj d h=>?_,λj g h=>?_,λj g h=>?_,λj k g t q D E M N=>?_,by rw[vj];exact S.len,m.nw⟩,L,A⟩
 ·by_cases f:j=i
  ·subst f;rw[iW n] at h;cases h;exact⟨_,B,A⟩
  ·rw[iN (Ne.symm f)] at h;exact m.dat j d (by rw[iN (Ne.symm f)];exact h)
 all_goals
  have back:∀{j:Nat}{s:Slot},(Z.set i (.dat c))[j]? = some s->(∀d,s≠.dat d)->(Z.set i .no)[j]? = some s:=λ{j s} h C=>by
   by_cases f:j=i
   ·subst f;rw[iW n] at h;cases h;exact absurd rfl (C c)
   ·rw[iN (Ne.symm f)] at h ⊢;exact h
 ·exact m.own j g (back h (by intro d;simp))
 ·exact m.io j g (back h (by intro d;simp))
 ·exact m.ne j k g t q (D.imp (λz=>back z (by intro d;simp)) λz=>back z (by intro d;simp)) (E.imp (λz=>back z (by intro d;simp)) λz=>back z (by intro d;simp)) M N
def DR (i:Nat)(m:X.N[i]? = some x)(n:cc X.env.scope x)(hd:bJ x:=by decide)(j:cM x:=by decide):DD X (.Name x pos) (dF i):=by
 refine⟨_,eC m n hd j,λH0 ps Z σ H o d Z' Q f S k=>?_⟩
 unfold dF at f;split at f
 ·rename_i d0 g;cases f;obtain⟨v,h,r⟩:=S.dat i d g;exact⟨v,h,k v H o S (af.refl _) r⟩
 ·rename_i c0 g;cases f;obtain⟨l,v,h,p,s',r⟩:=S.Ad g;exact⟨v,h,k v H l p s' r⟩
 ·cases f
noncomputable def wL (i:Nat):EF:=λZ=>match Z[i]? with
 | some (.dat d)=>some (.dat d,Z)
 | some (.own c)=>some (.own c,Z.set i .no)
 | _=>none
def HZ (i:Nat)(y:X.N[i]? = some x)(A:cc X.env.scope x)(hd:bJ x:=by decide)(o:cM x:=by decide):DE X (.Name x pos) (wL i):=by
 refine⟨_,eC y A hd o,λH0 ps Z σ H t r Z' Q g S k=>?_⟩
 unfold wL at g;split at g
 ·rename_i B l;cases g;obtain⟨v,m,r⟩:=S.dat i B l;exact⟨v,m,k v H t S (af.refl _) r⟩
 ·rename_i c0 l;cases g;obtain⟨p,m,C,D,E⟩:=S.own i c0 l;have u:i < Z.length:=(bc.mp l).1;have get:∀{j:Nat}{s:Slot},(Z.set i .no)[j]? = some s->s≠.no->j≠i/\Z[j]? = some s:=λ{j s} h F=>by
   by_cases n:j=i
   ·subst n;rw[iW u] at h;cases h;exact absurd rfl F
   ·rw[iN (Ne.symm n)] at h;exact⟨n,h⟩
  refine⟨.ref p,m,k (.ref p) H t ⟨S.sub,S.keep,S.eF,λj d h=>S.dat j d (get h (by simp)).2,λj f h=>S.own j f (get h (by simp)).2,λj f h=>S.io j f (get h (by simp)).2,λj k f w q G I=>?_,by rw[vj];exact S.len,S.nw⟩ (af.refl _) ⟨p,rfl,C,D,E,λj f h z=>?_⟩⟩
  ·exact S.ne j k f w q (G.imp (λz=>(get z (by simp)).2) λz=>(get z (by simp)).2) (I.imp (λz=>(get z (by simp)).2) λz=>(get z (by simp)).2)
  ·have h':j≠i/\(Z[j]? = some (.own f)\/Z[j]? = some (.io f)):=by
    rcases h with h | h
    ·exact⟨(get h (by simp)).1,.inl (get h (by simp)).2⟩
    ·exact⟨(get h (by simp)).1,.inr (get h (by simp)).2⟩
   exact h'.1 (S.ne j i f c0 p h'.2 (.inl l) z m)
 ·cases g
noncomputable def cg (op:Dat->Dat->Option Res) (f g:DF):EF:=λZ=>(f Z).bind λp=>(g p.2).bind λq=>(op p.1 q.1).map λr=>(r,q.2)
noncomputable def eE (X:Cx) (r:R2) (op:Dat->Dat->Option Res):Prop:=∀(h:Hp×Hp) (i:Nat->Option Addr) (Z:DS) (j:St) (H g:Hp) (x y:V) (d d':Dat) (o:Res) (Q:VK),op d d'=some o->SR X.K h i Z j H g->Rep X.K g d x->Rep X.K g d' y ->
 (∀v k f,SR X.K h i Z j k f->af g f->RR X.K h i Z j k f v o->Q v k)->r x y H Q
theorem wI (G:eE X r op)(I:∀(l:Hp×Hp) (m:Nat->Option Addr) (Z:DS) (i:St) (H n:Hp) (d:Dat) (s:DS) (Q:VK),f Z=some (d,s)->SR X.K l m Z i H n->(∀v t h,SR X.K l m s i t h->af n h->Rep X.K h d v->Q v t)->A i H Q)(J:∀(l:Hp×Hp) (m:Nat->Option Addr) (Z:DS) (i:St) (H n:Hp) (d:Dat) (s:DS) (Q:VK),g Z=some (d,s)->SR X.K l m Z i H n->(∀v t h,SR X.K l m s i t h->af n h->Rep X.K h d v->Q v t)->B i H Q)(l:Hp×Hp)(m:Nat->Option Addr)(Z:DS)(i:St)(H n:Hp)(o:Res)(s:DS)(Q:VK)(j:cg op f g Z=some (o,s))(S:SR X.K l m Z i H n)(k:∀v t h,SR X.K l m s i t h->af n h->RR X.K l m s i t h v o->Q v t):mH r A B i H Q:=by
 unfold cg at j;cases u:f Z with
 | none=>rw[u] at j;cases j
 | some p =>
  obtain⟨d,Z1⟩:=p;rw[u] at j;simp only[a5] at j;cases w:g Z1 with
  | none=>rw[w] at j;cases j
  | some q =>
   obtain⟨d',Z2⟩:=q;rw[w] at j;simp only[a5] at j;cases z:op d d' with
   | none=>rw[z] at j;cases j
   | some o' =>
    rw[z] at j;cases j;refine I l m Z i H n d Z1 _ u S λx L C M N O=>?_
    refine J l m Z1 i L C d' _ _ w M λy P D R E T=>?_
    exact G l m _ i P D x y d d' _ Q z R (Rep.mono E O) T λv U F V W Y=>k v U F V ((N.trans E).trans W) Y
def kK (h:aI X (binaryOp op) r)(i:eE X r d)(j:DD X a f)(k:DD X b g):DE X (.BinOp a op b pos) (cg d f g):=by
 obtain⟨ta,l,m⟩:=j;obtain⟨tb,n,o⟩:=k;exact⟨_,FO h l n,wI i m o⟩
def pK (h:aI X (compareOp op) r)(i:eE X r d)(j:DD X a f)(k:DD X b g)(l:behindInMarks op b=false):DE X (.Compare a [op] [b] pos) (cg d f g):=by
 obtain⟨ta,m,n⟩:=j;obtain⟨tb,o,p⟩:=k;exact⟨_,BZ h m o l,wI i n p⟩
end
end DV
end
section
namespace L2
open PySem PySem.Spec PyProof.Rows
section
variable {X:Cx}
noncomputable def Br:R2:=λx y H Q=>∃l b xs a,x=.ref l/\y=.ref b/\Rd H l (.lst xs)/\Rd H b (.lst a)/\xs.length + a.length<=bg/\∀p,H p=none->Q (.ref p) (upd H p (.lst (xs++a)))
def J3:aI X (Tg .Add) Br:=by
 intro pins s σ H x y v u Q I rx d h;obtain⟨l,b,xs,zs,rfl,rfl,f,g,hz,q⟩:=h;cases rx;cases d;obtain⟨z,its,n,r,e⟩:=f.ok I.ai;obtain⟨z2,a,n2,c,i⟩:=g.ok I.ai;have hl:=r.length;have hl2:=c.length;refine PySem.P.add_list e i ?_ (by rw[e7,e7];lia)
 have j:its.toArray++a.toArray=(its++a).toArray:=by simp
 rw[j];exact⟨.ref _,_,I.sd (t':=s.toks) (r.append c) (by rw[eJ];omega),rfl,q _ I.fresh⟩
noncomputable def BD (K:gj):R2:=λx y H Q=>∃l b xs a,x=.ref l/\y=.ref b/\cb K H l xs/\Rd H b (.lst a)/\xs.length + a.length<=bg/\∀p,H p=none->Q (.ref p) (upd H p (.lst (xs++a)))
def M':aI X (Tg .Add) (BD X.K):=by
 intro pins s σ H x y v u Q I rx i h;obtain⟨l,b,xs,zs,rfl,rfl,j,k,hz,q⟩:=h;cases rx;cases i;obtain⟨its,r,⟨⟨cls,dd,data,m⟩,n,c,d,hd,e⟩,z⟩:=I.list j;simp only at d hd e;subst d hd e;obtain⟨z2,a,n2,f,g⟩:=k.ok I.ai;have hl:=r.length;have hl2:=f.length;refine Xs ⟨_,c,rfl⟩ ⟨_,g,rfl⟩ noFill_list_add seq_list_add PySem.F.slot_list_add PySem.F.entry_list_add (PySem.F.args_list_add_2 _ _) (list_addW l b its.toArray a.toArray n n2 none none m #[] (by rw[e7,e7];lia)) ⟨c,g,?_⟩
 have o:its.toArray++a.toArray=(its++a).toArray:=by simp
 rw[o];exact⟨.ref _,_,I.sd (t':=s.toks) (r.append f) (by rw[eJ];omega),rfl,q _ I.fresh⟩
noncomputable def DY (i j:Int):Prop:=0 < j/\j.natAbs.log2 < 9000
def KO:aI X (Tg .FloorDiv) (rI DY λi j=>.int (i / j)):=rH λi j _ _ _ _ _ a q=>by
 have h1:(0:Int) < j:=a.1;exact floordiv_int (by omega) (by rw[Int.fdiv_eq_ediv_of_nonneg i (by lia)];exact q) (.inl (PyProof.noPylong_of_log2 a.2))
end
end L2
namespace DV
open PySem PySem.Spec PyProof.Rows L2
section
variable {X:Cx}
theorem ay.ints {K:gj}{H:Hp}:∀(a:List Int),ay K H (a.map Dat.int) (a.map V.int)
 | []=>rfl
 | n::a=>⟨_,_,rfl,rfl,ay.ints a⟩
noncomputable def lC:Dat->Dat->Option Res
 | .int i,.int j=>some (.dat (.int (i + j)))
 | .str x,.str y=>if x.length + y.length<=bg then some (.dat (.str (x++y))) else none
 | .lst xs,.lst ys=>if xs.length + ys.length<=bg then some (.own (.lst (xs++ys))) else none
 | .cU xs,.lst ys=>if xs.length + ys.length<=bg then some (.own (.lst (xs.map Dat.int++ys))) else none
 | .tup (x::xs),.tup (y::ys)=>if (x::xs).length + (y::ys).length<=bg then some (.dat (.tup ((x::xs)++(y::ys)))) else none
 | _,_=>none
noncomputable def AA (K:gj):R2:=λx y H Q=>gx (λi j=>.int (i + j)) x y H Q\/(λx y H Q=>(λx y H Q=>∃i j,x=.str i/\y=.str j/\i.length + j.length<=bg/\Q (.str (i++j)) H) x y H Q\/(λx y H Q=>Br x y H Q\/(λx y H Q=>BD K x y H Q\/Ao K x y H Q) x y H Q) x y H Q) x y H Q
def FX:aI X (Tg .Add) (AA X.K):=aI.or Eg (aI.or OJ (aI.or J3 (aI.or M' JI)))
def FH:eE X (AA X.K) lC:=by
 intro H0 ps Z σ H m x y d d' o Q e S rx g k;unfold lC at e;split at e
 ·cases e;cases rx;cases g;exact .inl ⟨_,_,rfl,rfl,k _ H m S (af.refl _) rfl⟩
 ·split at e
  ·rename_i c;cases e;cases rx;cases g;exact .inr (.inl ⟨_,_,rfl,rfl,c,k _ H m S (af.refl _) rfl⟩)
  ·cases e
 ·split at e
  ·rename_i c;cases e;obtain⟨p,vs,rfl,h,i⟩:=rx;obtain⟨j,f,rfl,l,b⟩:=g;refine .inr (.inr (.inl ⟨p,j,vs,f,rfl,rfl,Rd.mono S.sub h,Rd.mono S.sub l,by rw[i.length,b.length];exact c,λq a=>?_⟩))
   exact k (.ref q) _ m (S.made a) (af.refl _) ⟨q,rfl,⟨_,bu,ay.append i b,S.dy a⟩,(S.bM a).2,(S.bM a).1,S.d6 a⟩
  ·cases e
 ·split at e
  ·rename_i c;cases e;obtain⟨p,rfl,h⟩:=rx;obtain⟨j,f,rfl,l,b⟩:=g;refine .inr (.inr (.inr (.inl ⟨p,j,_,f,rfl,rfl,cb.mono S.sub h,Rd.mono S.sub l,by rw[a8,b.length];exact c,λq a=>?_⟩)))
   exact k (.ref q) _ m (S.made a) (af.refl _) ⟨q,rfl,⟨_,bu,ay.append (ay.ints _) b,S.dy a⟩,(S.bM a).2,(S.bM a).1,S.d6 a⟩
  ·cases e
 ·split at e
  ·rename_i c;cases e;obtain⟨p,vs,rfl,h,i⟩:=rx;obtain⟨j,f,rfl,l,b⟩:=g;have n:=i.length;have r:=b.length;refine .inr (.inr (.inr (.inr ⟨p,j,vs,f,rfl,rfl,bb.mono S.sub h,bb.mono S.sub l,λz=>?_,by rw[n,r];exact c,λz=>?_,λ_ q a=>?_⟩)))
   ·rw[z] at n;cases n
   ·rw[z] at r;cases r
   ·obtain⟨s,s'⟩:=S.laid (o:=.tup (vs++f)) a;exact k (.ref q) _ _ s s' ⟨q,_,rfl,bb.of bu,ay.mono s' (ay.append i b)⟩
  ·cases e
 ·cases e
noncomputable def dX (C:Int->Int->Bool) (g:Int->Int->Dat):Dat->Dat->Option Res
 | .int i,.int j=>if C i j=true then some (.dat (g i j)) else none
 | _,_=>none
def qF (b:∀i j,C i j=true->a i j)(c:∀i j K H,Rep K H (g i j) (g' i j)):eE X (rI a g') (dX C g):=by
 intro H0 ps Z σ H f x y d d' o Q e S rx h k;unfold dX at e;split at e
 ·split at e
  ·rename_i l;cases e;cases rx;cases h;exact⟨_,_,rfl,rfl,b _ _ l,k _ H f S (af.refl _) (c _ _ _ _)⟩
  ·cases e
 ·cases e
def nK (a:∀i j K H,Rep K H (g i j) (g' i j)):eE X (gx g') (dX (λ_ _=>true) g):=by
 intro H0 ps Z σ H b x y d d' o Q e S rx c k;unfold dX at e;split at e
 ·split at e
  ·cases e;cases rx;cases c;exact⟨_,_,rfl,rfl,k _ H b S (af.refl _) (a _ _ _ _)⟩
  ·cases e
 ·cases e
end
noncomputable def iZ:Res->Slot
 | .dat d=>.dat d
 | .own c=>.own c
noncomputable def gw (i:Nat) (r:Res) (Z:DS):Option DS:=match Z[i]? with
 | none=>none
 | some (.io _)=>none
 | some _=>some (Z.set i (iZ r))
section
variable {K:gj}{H0:Hp×Hp}{H Hi:Hp}{ps:Nat->Option cW}{Z Z':DS}{σ:St}{i:Nat}{r:Res}{v:V}
theorem SR.put (S:SR K H0 ps Z σ H Hi) (u:RR K H0 ps Z σ H Hi v r) (e:gw i r Z=some Z'):SR K H0 ps Z' (σ.set i (some v)) H Hi:=by
 unfold gw at e;cases w:Z[i]? with
 | none=>rw[w] at e;cases e
 | some s =>
  have o:i < Z.length:=(bc.mp w).1;have B:i < σ.length:=by rw[<- S.len];exact o
  have F:Z'=Z.set i (iZ r)/\∀c,s≠.io c:=by
   rw[w] at e;cases s <;> first | (cases e;done) | (exact⟨(Option.some.inj e).symm,by intro c;simp⟩)
  obtain⟨rfl,_⟩:=F;have b:∀{j:Nat}{s':Slot},j≠i->(Z.set i (iZ r))[j]? = some s'->Z[j]? = some s':=λ{j s'} a h=>by
   rw[iN (Ne.symm a)] at h;exact h
  have Yf:∀{s':Slot},(Z.set i (iZ r))[i]? = some s'->s'=iZ r:=λ{s'} h=>by
   rw[iW o] at h;exact (Option.some.inj h).symm
  have f:∀{j:Nat},j≠i->(σ.set i (some v))[j]? = σ[j]?:=λ{j} a=>iN (Ne.symm a)
  have x:(σ.set i (some v))[i]? = some (some v):=iW B;refine⟨S.sub,S.keep,S.eF,λj d h=>?_,λj c h=>?_,λj c h=>?_,λj k c l p y A m n=>?_,by simp only[vj,vj];exact S.len,S.nw⟩
  ·by_cases a:j=i
   ·subst a;have q:=Yf h;cases r with
    | dat d'=>cases q;exact⟨v,x,u⟩
    | own c=>cases q
   ·rw[f a];exact S.dat j d (b a h)
  ·by_cases a:j=i
   ·subst a;have q:=Yf h;cases r with
    | dat d'=>cases q
    | own c =>
     cases q;obtain⟨p,rfl,C,D,E,_⟩:=u;exact⟨p,x,C,D,E⟩
   ·rw[f a];exact S.own j c (b a h)
  ·by_cases a:j=i
   ·subst a;have q:=Yf h;cases r <;> cases q
   ·rw[f a];exact S.io j c (b a h)
  ·have back:∀{j:Nat}{c:Dat},((Z.set i (iZ r))[j]? = some (.own c)\/(Z.set i (iZ r))[j]? = some (.io c))->j≠i->(Z[j]? = some (.own c)\/Z[j]? = some (.io c)):=λh a=>h.imp (b a) (b a)
   have t:∀{c:Dat}{p:cW},((Z.set i (iZ r))[i]? = some (.own c)\/(Z.set i (iZ r))[i]? = some (.io c))->(σ.set i (some v))[i]? = some (some (.ref p))->∀(k:Nat) (l:Dat),(Z[k]? = some (.own l)\/Z[k]? = some (.io l))->σ[k]?≠some (some (.ref p)):=λ{c p} h z=>by
    rw[x] at z;cases r with
    | dat d'=>rcases h with h | h <;> cases Yf h
    | own c0 =>
     obtain⟨p',G,C,D,E,nd⟩:=u;subst G;cases z;exact nd
   by_cases a:j=i
   ·by_cases g:k=i
    ·simp only[a,g]
    ·subst a;rw[f g] at n;exact absurd n (t y m k l (back A g))
   ·by_cases g:k=i
    ·subst g;rw[f a] at m;exact absurd m (t A n j c (back y a))
    ·rw[f a] at m;rw[f g] at n;exact S.ne j k c l p (back y a) (back A g) m n
end
noncomputable abbrev GF:=Dat->DS->Option DS
structure DG (X:Cx) (tg:gs) (g:GF):Prop where
 ex:∃t:TG,PG X tg t/\∀(H0:Hp×Hp) (ps:Nat->Option cW) (Z:DS) (σ:St) (H Hi:Hp) (d:Dat) (Z':DS) (v:V) (Q:St->Hp->Prop),g d Z=some Z'->SR X.K H0 ps Z σ H Hi->Rep X.K Hi d v ->
 (∀σ',SR X.K H0 ps Z' σ' H Hi->Q σ' H)->t v σ H Q
structure lL (X:Cx) (tgs:List gs) (g:List Dat->DS->Option DS):Prop where
 ex:∃t:iQ,mO X tgs t/\∀(H0:Hp×Hp) (ps:Nat->Option cW) (Z:DS) (σ:St) (H Hi:Hp) (ds:List Dat) (Z':DS) (vs:List V) (Q:St->Hp->Prop),g ds Z=some Z'->SR X.K H0 ps Z σ H Hi->ay X.K Hi ds vs ->
 (∀σ',SR X.K H0 ps Z' σ' H Hi->Q σ' H)->t vs σ H Q
noncomputable def CI (i:Nat):GF:=λd Z=>gw i (.dat d) Z
noncomputable def Iz:List Dat->DS->Option DS
 | [],Z=>some Z
 | _,_=>none
noncomputable def zL (g:GF) (a:List Dat->DS->Option DS):List Dat->DS->Option DS
 | d::ds,Z=>(g d Z).bind (a ds)
 | [],_=>none
section
variable {X:Cx}{pos:qe}
def E9 (i:Nat)(a:X.N.Nodup)(b:X.N[i]? = some x)(hx:Loc X.env.scope x)(c:X.fn x=true\/X.env.scope.names.lookup x=some .local):DG X (.Name x pos) (CI i):=by
 refine⟨_,Jf a b hx c,λH0 ps Z σ H Hi d Z' v Q e S r k=>?_⟩
 exact k _ (S.put (r:=.dat d) r e)
theorem Ks:lL X [] Iz:=by
 refine⟨_,HV,λH0 ps Z a H Hi ds Z' vs Q e S r k=>?_⟩
 cases ds with
 | nil=>cases e;exact⟨r,k a S⟩
 | cons _ _=>cases e
theorem M8 (n:DG X e g)(o:lL X a b)(p:(nS (e::a) X.env).map (·.2)=T8 e X.env::(nS a X.env).map (·.2):=by rfl):lL X (e::a) (zL g b):=by
 obtain⟨t1,q,s⟩:=n;obtain⟨t2,t,u⟩:=o;refine⟨_,Hb q t p,λf h Z w H i ds j vs Q e S r k=>?_⟩
 cases ds with
 | nil=>cases e
 | cons d ds =>
  obtain⟨v,l,rfl,x,y⟩:=r;have e:(g d Z).bind (b ds)=some j:=e;cases c:g d Z with
  | none=>rw[c] at e;cases e
  | some Z1 =>
   rw[c] at e;exact⟨v,l,rfl,s f h Z w H i d Z1 v _ c S x λm z=>u f h Z1 m H i ds j l Q e z y k⟩
end
inductive Out where
 | next (Z:DS) | ret (r:Res) (Z:DS) | brk (Z:DS) | cont (Z:DS) | exc (C:cW) (Z:DS)
noncomputable def XE (X:Cx) (C:cW) (b:St) (H:Hp):Prop:=HL X b C H/\∀a,Gq X b (.ref C) a H
noncomputable abbrev SF:=DS->Option Out
noncomputable def o7 (X:Cx) (d:Hp×Hp) (e:Nat->Option cW) (f:Hp) (D:Ends):Out->Prop
 | .next Z=>∀b c a,SR X.K d e Z b c a->af f a->D.nx b c
 | .ret r Z=>∀v b c a,SR X.K d e Z b c a->af f a->RR X.K d e Z b c a v r->D.rt v c
 | .brk Z=>∀b c a,SR X.K d e Z b c a->af f a->D.bk b c
 | .cont Z=>∀b c a,SR X.K d e Z b c a->af f a->D.ct b c
 | .exc C Z=>∀b c a,SR X.K d e Z b c a->af f a->XE X C b c
theorem o7.mono (s:af g e)(h:o7 X f i g D o):o7 X f i e D o:=by
 cases o with
 | next Z=>exact λa c b S d=>h a c b S (s.trans d)
 | ret r Z=>exact λv a c b S d=>h v a c b S (s.trans d)
 | brk Z=>exact λa c b S d=>h a c b S (s.trans d)
 | cont Z=>exact λa c b S d=>h a c b S (s.trans d)
 | exc C Z=>exact λa c b S d=>h a c b S (s.trans d)
structure cp (X:Cx) (st:Ue) (f:SF):Prop where
 ex:∃t,PS X st t/\∀(H0:Hp×Hp) (ps:Nat->Option cW) (Z:DS) (σ:St) (H Hi:Hp) (o:Out) (D:Ends),f Z=some o->SR X.K H0 ps Z σ H Hi->o7 X H0 ps Hi D o->t D σ H
structure gm (X:Cx) (st:List Ue) (f:SF):Prop where
 ex:∃t,gn X st t/\∀(H0:Hp×Hp) (ps:Nat->Option cW) (Z:DS) (σ:St) (H Hi:Hp) (o:Out) (D:Ends),f Z=some o->SR X.K H0 ps Z σ H Hi->o7 X H0 ps Hi D o->t D σ H
noncomputable def xc:SF:=λZ=>some (.next Z)
noncomputable def lU (f g:SF):SF:=λZ=>(f Z).bind λo=>match o with
 | .next Z1=>g Z1
 | o=>some o
noncomputable def kC (f:DF):SF:=λZ=>(f Z).map λp=>.next p.2
noncomputable def nc (f:EF):SF:=λZ=>(f Z).map λp=>.ret p.1 p.2
noncomputable def jv (c:BF) (f g:SF):SF:=λZ=>(c Z).bind λp=>if p.1=true then f p.2 else g p.2
noncomputable def fW (i:Nat) (f:EF):SF:=λZ=>(f Z).bind λp=>(gw i p.1 p.2).map .next
noncomputable def mR (g:GF) (f:DF):SF:=λZ=>(f Z).bind λp=>(g p.1 p.2).map .next
section
variable {X:Cx}{pos:qe}
def AO:gm X [] xc:=⟨_,Lx,λH0 ps Z a H b o D e S k=>by cases e;exact k a H b S (af.refl _)⟩
theorem CP {st:Ue}{a:List Ue}{f g:SF}(j:cp X st f) (l:gm X a g):gm X (st::a) (lU f g):=by
 obtain⟨t1,m,n⟩:=j;obtain⟨t2,p,q⟩:=l;refine⟨_,Oo m p,λc d Z s H t o D e S k=>?_⟩
 unfold lU at e;cases b:f Z with
 | none=>rw[b] at e;cases e
 | some o1 =>
  rw[b] at e;refine n c d Z s H t o1 _ b S ?_;cases o1 with
  | next Z1=>exact λh u i v s'=>q c d Z1 h u i o D e v (k.mono s')
  | ret r Z1=>cases e;exact k
  | brk Z1=>cases e;exact k
  | cont Z1=>cases e;exact k
  | exc C Z1=>cases e;exact k
theorem tX (h:DD X e f)(g:r0 e none pos.line X.env=pure false:=by rfl):cp X (.Expr e pos) (kC f):=by
 obtain⟨t,p,q⟩:=h;refine⟨_,E3 p g,λi j Z b H l o D e S k=>?_⟩
 unfold kC at e;cases a:f Z with
 | none=>rw[a] at e;cases e
 | some dp =>
  obtain⟨d,Z1⟩:=dp;rw[a] at e;cases e;exact q i j Z b H l d Z1 _ a S λv m c n s' _=>k b m c n s'
theorem Hr (h:DE X e f):cp X (.Return (some e) pos) (nc f):=by
 obtain⟨t,p,q⟩:=h;refine⟨_,D8 p,λd g Z b H i o D e S k=>?_⟩
 unfold nc at e;cases a:f Z with
 | none=>rw[a] at e;cases e
 | some dp =>
  obtain⟨r,Z1⟩:=dp;rw[a] at e;cases e;exact q d g Z b H i r Z1 _ a S λv j c l s' m=>k v b j c l s' m
theorem Ct (m:DT X c fc)(n:gm X a fa)(p:gm X b fb):cp X (.If c a b pos) (jv fc fa fb):=by
 obtain⟨tc,q,r⟩:=m;obtain⟨ta,s,t⟩:=n;obtain⟨tb,u,v⟩:=p;refine⟨_,L4 q s u,λf g Z h H w o D e S k=>?_⟩
 unfold jv at e;cases i:fc Z with
 | none=>rw[i] at e;cases e
 | some dp =>
  obtain⟨b,Z1⟩:=dp;rw[i] at e;dsimp only[a5] at e;refine r f g Z h H w b Z1 _ i S λj d l s'=>?_
  cases b with
  | true=>exact t f g Z1 h j d o D e l (k.mono s')
  | false=>exact v f g Z1 h j d o D e l (k.mono s')
theorem Ib (i:Nat)(g:X.N.Nodup)(j:X.N[i]? = some x)(hx:Loc X.env.scope x)(l:X.fn x=true\/X.env.scope.names.lookup x=some .local)(h:DE X e f)(m:r0 e (some (.Name x a)) pos.line X.env=pure false):cp X (.Assign [.Name x a] e pos) (fW i f):=by
 obtain⟨t,p,q⟩:=h;refine⟨_,DZ g j hx p m l,λn s Z u H w o D e S k=>?_⟩
 unfold fW at e;cases b:f Z with
 | none=>rw[b] at e;cases e
 | some dp =>
  obtain⟨r,Z1⟩:=dp;rw[b] at e;simp only[a5] at e;cases c:gw i r Z1 with
  | none=>rw[c] at e;cases e
  | some Z2 =>
   rw[c] at e;cases e;exact q n s Z u H w r Z1 _ b S λv y d z s' A=>k _ y d (z.put A c) s'
theorem Ft (h:DD X e f)(u:DG X a g)(w:VL [a] e pos.line X.env=pure false:=by rfl)(hw:VM [a] e X.env=pure none:=by rfl)(x:(nS [a] X.env).map (·.2)=[T8 a X.env]:=by rfl):cp X (.Assign [a] e pos) (mR g f):=by
 obtain⟨t,p,q⟩:=h;obtain⟨tg',j,y⟩:=u;refine⟨_,Bu p j w hw x,λl m Z n H z o D e S k=>?_⟩
 unfold mR at e;cases c:f Z with
 | none=>rw[c] at e;cases e
 | some dp =>
  obtain⟨d,Z1⟩:=dp;rw[c] at e;simp only[a5] at e;cases i:g d Z1 with
  | none=>rw[i] at e;cases e
  | some Z2 =>
   rw[i] at e;cases e;exact q l m Z n H z d Z1 _ c S λv r b A s' B=>y l m Z1 n r b d _ v _ i A B λs C=>k s r b C s'
end
noncomputable def JW (K:gj) (J:It) (items:List Dat) (e:Hp):Prop:=∀(i:Nat) (a:Hp),af e a ->
 (∀d,items[i]? = some d->J.go i a/\∀x b,J.lS i a x b->(b=a/\Rep K e d x)\/∃p o,a p=none/\b=upd a p o/\∀c,af e c->c p=none->Rep K (upd c p o) d x) /\
 (items.length<=i->J.stop i a)
theorem JW.mono {K:gj}{J:It}{items:List Dat}{g f:Hp}(h:JW K J items g) (s:af g f):JW K J items f:=λi m s'=>by
 obtain⟨j,q⟩:=h i m (s.trans s');refine⟨λd e=>⟨(j d e).1,λx k y=>?_⟩,q⟩
 rcases (j d e).2 x k y with⟨a,b⟩ | ⟨p,o,a,b,c⟩
 ·exact .inl ⟨a,Rep.mono s b⟩
 ·exact .inr ⟨p,o,a,b,λl r n=>c l (s.trans r) n⟩
noncomputable abbrev IF:=DS->Option (List Dat×DS)
structure dn (X:Cx) (tg iter:gs) (f:IF):Prop where
 ex:∃wi,PI X tg iter wi/\∀(H0:Hp×Hp) (ps:Nat->Option cW) (Z:DS) (σ:St) (H Hi:Hp) (items:List Dat) (Z':DS) (R:It->Hp->Prop),f Z=some (items,Z')->SR X.K H0 ps Z σ H Hi ->
 (∀J H1 Hi1,SR X.K H0 ps Z' σ H1 Hi1->af Hi Hi1->JW X.K J items Hi1->R J H1)->wi σ H R
noncomputable def Jx:Dat->Option (List Dat)
 | .lst ds=>some ds
 | .tup ds=>some ds
 | _=>none
noncomputable def ke (f:DF):IF:=λZ=>(f Z).bind λp=>(Jx p.1).map λds=>(ds,p.2)
noncomputable def eY (lo n:Int):List Dat:=(lp (n - lo).toNat).map λk:Nat=>.int (lo + (k:Int))
noncomputable def lX (f:AF):IF:=λZ=>(f Z).bind λp=>match p.1 with
 | [.int n]=>if -(2 ^ 62)<=n/\n < 2 ^ 62 then some (eY 0 n,p.2) else none
 | _=>none
section
variable {X:Cx}{tg:gs}
def PI.or (e:PI X tg iter c)(f:PI X tg iter d):PI X tg iter (λa H R=>c a H R\/d a H R):=λb s a H R I h=>h.elim (e b s a H R I) (f b s a H R I)
theorem Lq (h:DD X e f):dn X tg e (ke f):=by
 obtain⟨t,p,q⟩:=h;refine⟨_,PI.or (Ic p) (IZ p),λw z Z A H B items Z' R c S k=>?_⟩
 unfold ke at c;cases m:f Z with
 | none=>rw[m] at c;cases c
 | some dp =>
  obtain⟨d,Z1⟩:=dp;rw[m] at c;simp only[a5] at c;cases d with
  | lst ds =>
   cases c;refine .inl (q w z Z A H B _ _ _ m S λv n j l s' r=>?_)
   obtain⟨a,vs,rfl,b,rs⟩:=r;refine⟨a,rfl,⟨vs,.inl (Rd.mono l.sub b)⟩,k _ n j l s' λi C g=>⟨λd e=>?_,λo=>⟨vs,.inl (Rd.mono g b),by rw[rs.length];exact o⟩⟩⟩
   obtain⟨x,ex,rx⟩:=rs.get e;refine⟨⟨vs,x,.inl (Rd.mono g b),ex⟩,λy D s=>.inl ?_⟩
   obtain⟨rfl,u⟩:=s;have:=u vs (.inl (Rd.mono g b));rw[ex] at this;cases this;exact⟨rfl,rx⟩
  | tup ds =>
   cases c;refine .inr (q w z Z A H B _ _ _ m S λv n j l s' r=>?_)
   obtain⟨a,vs,rfl,b,rs⟩:=r;refine⟨a,rfl,⟨vs,bb.mono l.sub b⟩,k _ n j l s' λi C g=>⟨λd e=>?_,λo=>⟨vs,bb.mono g b,by rw[rs.length];exact o⟩⟩⟩
   obtain⟨x,ex,rx⟩:=rs.get e;refine⟨⟨vs,x,bb.mono g b,ex⟩,λy D s=>.inl ?_⟩
   obtain⟨rfl,u⟩:=s;have:=u vs (bb.mono g b);rw[ex] at this;cases this;exact⟨rfl,rx⟩
  | _=>cases c
def N8 {K:gj}{lo n:Int}{c:Hp}:JW K (n9 lo (n - lo).toNat) (eY lo n) c:=λi H' _=>by
 refine⟨λd e=>?_,λb=>?_⟩
 ·unfold eY at e;rw[cn] at e;have a:i < (n - lo).toNat:=by
   cases q:(lp (n - lo).toNat)[i]? with
   | none=>rw[q] at e;cases e
   | some j=>simpa using (bc.mp q).1
  rw[W' a] at e;cases e;exact⟨a,λx H'' y=>.inl ⟨y.1,y.2⟩⟩
 ·unfold eY at b;rw[a8,TL] at b;exact b
theorem LR (g:Gl X "range")(i:X.mg "range"=none)(h:DA X [a] f)(j:ph [a] X.env=[(false,eval a X.env)]:=by rfl):dn X tg (.Call (.Name "range" p) [a] [] pos) (lX f):=by
 obtain⟨t,l,q⟩:=h;refine⟨_,EC g i l j,λm o Z s H u items Z' R b S k=>?_⟩
 unfold lX at b;cases c:f Z with
 | none=>rw[c] at b;cases b
 | some dp =>
  obtain⟨ds,Z1⟩:=dp;rw[c] at b;dsimp only[a5] at b;refine q m o Z s H u ds Z1 _ c S λvs w d x s' r=>?_
  split at b
  ·split at b
   ·rename_i n e;cases b;obtain⟨v,r1,rfl,y,z⟩:=r;cases y;cases z;refine⟨n,rfl,e.1,e.2,?_⟩;have:=k (n9 0 (n - 0).toNat) w d x s' N8
    rwa [UZ] at this
   ·cases b
  ·cases b
end
noncomputable def forLoop (g:GF) (fb:SF):List Dat->SF
 | [],Z=>some (.next Z)
 | x::xs,Z=>(g x Z).bind λZ1=>(fb Z1).bind λo=>match o with
  | .next Z2=>forLoop g fb xs Z2
  | .cont Z2=>forLoop g fb xs Z2
  | .brk Z2=>some (.next Z2)
  | .ret r Z2=>some (.ret r Z2)
  | .exc _ _=>none
noncomputable def my (fi:IF) (g:GF) (fb:SF):SF:=λZ=>(fi Z).bind λp=>forLoop g fb p.1 p.2
section
variable {X:Cx}{pos:qe}
theorem Gg (hp:Vz (hR X.prog X.w) X.A X.env X.xe)(hc:X.calm=true)(W:dn X Q iter fi)(hg:DG X Q g)(hb:gm X body fb)(hs:∀x,n5 iter X.env x=pure x:=by intro _;rfl):cp X (.For Q iter body [] pos) (my fi g fb):=by
 obtain⟨wi,pi,qi⟩:=W;obtain⟨tg',pg,qg⟩:=hg;obtain⟨tb,pb,qb⟩:=hb;refine⟨_,Nj hp hc pi pg pb hs,λF G Z σ H Hi o D e S k=>?_⟩
 unfold my at e;cases R:fi Z with
 | none=>rw[R] at e;cases e
 | some dp =>
  obtain⟨items,Z1⟩:=dp;rw[R] at e;simp only[a5] at e;refine qi F G Z σ H Hi items Z1 _ R S λJ H1 u S1 T jw=>?_
  refine⟨λi m l P=>m=items.length - i/\i<=items.length/\∃I f,SR X.K F G I l P f/\af u f/\forLoop g fb (items.drop i) I=some o,
   ⟨items.length,by simp,qh _,Z1,u,S1,af.refl _,by simpa using e⟩,?_⟩
  rintro i m l P ⟨rfl,W,I,f,L,s',c⟩;have M:=jw i P (s'.trans L.sub)
  by_cases N:i < items.length
  ·have ed:items.drop i=items[i]::items.drop (i + 1):=Wg N;have Y:items[i]? = some items[i]:=cm N;rw[ed] at c;dsimp only[forLoop] at c;cases U:g items[i] I with
   | none=>rw[U] at c;cases c
   | some Z2 =>
    rw[U] at c;simp only[a5] at c;cases V:fb Z2 with
    | none=>rw[V] at c;cases c
    | some o3 =>
     rw[V] at c;simp only[a5] at c;refine .inr ⟨(M.1 _ Y).1,λz H2=>∃h B,SR X.K F G h z H2 B/\af u B/\forLoop g fb (items.drop (i + 1)) h=some o,λz H2 ⟨h,B,S3,s3,f3⟩=>⟨items.length - (i + 1),by omega,rfl,N,h,B,S3,s3,f3⟩,λx E y=>?_⟩
     obtain⟨d,O4,O5,rx⟩:∃d,SR X.K F G I l E d/\af f d/\Rep X.K d items[i] x:=by
      rcases (M.1 _ Y).2 x E y with⟨rfl,r⟩ | ⟨p,ob,n,rfl,r⟩
      ·exact⟨f,L,af.refl _,Rep.mono s' r⟩
      ·obtain⟨a,b⟩:=L.laid (o:=ob) n;exact⟨_,a,b,r f s' (L.dy n)⟩
     refine qg F G I l E d _ Z2 x _ U O4 rx λz S2=>?_
     refine qb F G Z2 z E d o3 _ V S2 ?_;have sm:af u d:=s'.trans O5;cases o3 with
     | next h=>exact λq O j s t=>⟨h,j,s,sm.trans t,c⟩
     | cont h=>exact λq O j s t=>⟨h,j,s,sm.trans t,c⟩
     | brk h=>cases c;exact λq O j s t=>k q O j s ((T.trans sm).trans t)
     | ret r h=>cases c;exact λv q O j s t rr=>k v q O j s ((T.trans sm).trans t) rr
     | exc C h=>cases c
  ·have ei:i=items.length:=by lia
   subst ei;rw[XQ] at c;cases c;exact .inl ⟨M.2 (eS _),k l P f L (T.trans s')⟩
noncomputable def fX (c:BF) (fb:SF):Nat->SF
 | 0,_=>none
 | n + 1,Z=>(c Z).bind λp=>if p.1=true then (fb p.2).bind (λo=>match o with
   | .next Z2=>fX c fb n Z2
   | .cont Z2=>fX c fb n Z2
   | .brk Z2=>some (.next Z2)
   | .ret r Z2=>some (.ret r Z2)
   | .exc _ _=>none) else some (.next p.2)
theorem Dr (n:Nat)(N:Vz (hR X.prog X.w) X.A X.env X.xe)(O:DT X c fc)(P:gm X body fb):cp X (.While c body [] pos) (fX fc fb n):=by
 obtain⟨tc,Q,R⟩:=O;obtain⟨tb,T,U⟩:=P;refine⟨_,KL N Q T,λu x Z σ H y o D e S k=>?_⟩
 refine⟨λm g B=>∃q l,SR X.K u x q g B l/\af y l/\fX fc fb m q=some o,⟨n,Z,y,S,af.refl _,e⟩,?_⟩
 rintro m g B ⟨q,l,V,s',a⟩;cases m with
 | zero=>cases a
 | succ m =>
  dsimp only[fX] at a;cases E:fc q with
  | none=>simp only[E] at a;cases a
  | some dp =>
   obtain⟨b,Z1⟩:=dp;rw[E] at a;dsimp only[a5] at a;refine R u x q g B l b Z1 _ E V λG s I J=>?_
   cases b with
   | false =>
    have a:some (Out.next Z1)=some o:=a;cases a;exact k g G s I (s'.trans J)
   | true =>
    have a:((fb Z1).bind λo=>match o with
     | .next Z2=>fX fc fb m Z2
     | .cont Z2=>fX fc fb m Z2
     | .brk Z2=>some (.next Z2)
     | .ret r Z2=>some (.ret r Z2)
     | .exc _ _=>none)=some o:=a
    refine⟨λz L=>∃d p,SR X.K u x d z L p/\af y p/\fX fc fb m d=some o,λz L ⟨d,p,W,Y,f3⟩=>⟨m,UK _,d,p,W,Y,f3⟩,?_⟩
    cases F:fb Z1 with
    | none=>rw[F] at a;cases a
    | some M =>
     rw[F] at a;simp only[a5] at a;refine U u x Z1 g G s M _ F I ?_;have sm:af y s:=s'.trans J;cases M with
     | next d=>exact λh t f i j=>⟨d,f,i,sm.trans j,a⟩
     | cont d=>exact λh t f i j=>⟨d,f,i,sm.trans j,a⟩
     | brk d=>cases a;exact λh t f i j=>k h t f i (sm.trans j)
     | ret r d=>cases a;exact λv h t f i j rr=>k v h t f i (sm.trans j) rr
     | exc C d=>cases a
end
noncomputable def iK:AF:=λZ=>some ([],Z)
noncomputable def dA (f:DF) (g:AF):AF:=λZ=>(f Z).bind λp=>(g p.2).map λq=>(p.1::q.1,q.2)
noncomputable def rN (f:AF):EF:=λZ=>(f Z).bind λp=>if p.1.length<=bg then some (.own (.lst p.1),p.2) else none
noncomputable def se (f:AF):DF:=λZ=>(f Z).bind λp=>if p.1.length<=bg then some (.tup p.1,p.2) else none
section
variable {X:Cx}{pos:qe}
def Lr:DA X [] iK:=⟨_,nD,λH0 ps Z σ H a ds Z' Q e S k=>by cases e;exact k [] H a S (af.refl _) rfl⟩
theorem LF (p:DD X e f)(q:DA X a g)(r:bK X e a:=by rfl):DA X (e::a) (dA f g):=by
 obtain⟨t1,s,t⟩:=p;obtain⟨t2,u,w⟩:=q;refine⟨_,jB s u r,λh i Z j H x ds Z' Q e S k=>?_⟩
 unfold dA at e;cases b:f Z with
 | none=>rw[b] at e;cases e
 | some dp =>
  obtain⟨d,Z1⟩:=dp;rw[b] at e;simp only[a5] at e;cases c:g Z1 with
  | none=>rw[c] at e;cases e
  | some y =>
   obtain⟨l,Z2⟩:=y;rw[c] at e;cases e;refine t h i Z j H x d Z1 _ b S λv z m A B C=>?_
   exact w h i Z1 j z m l _ _ c A λvs D n E o F=>k (v::vs) D n E (B.trans o) ⟨v,vs,rfl,Rep.mono o C,F⟩
theorem Hl (h:DA X d f):DE X (.List d pos) (rN f):=by
 obtain⟨t,p,q⟩:=h;refine⟨_,Dj p,λj l Z m H n r Z' Q e S k=>?_⟩
 unfold rN at e;cases c:f Z with
 | none=>rw[c] at e;cases e
 | some dp =>
  obtain⟨ds,Z1⟩:=dp;rw[c] at e;dsimp only[a5] at e;split at e
  ·rename_i o;cases e;refine q j l Z m H n ds _ _ c S λvs H1 g a s i=>⟨by rw[i.length];exact o,λp b=>?_⟩
   exact k (.ref p) _ g (a.made b) s ⟨p,rfl,⟨_,bu,i,a.dy b⟩,(a.bM b).2,(a.bM b).1,a.d6 b⟩
  ·cases e
theorem KR {i}(h:DA X b f):DD X (.Tuple b i pos) (se f):=by
 obtain⟨t,p,q⟩:=h;refine⟨_,zP p,λj l Z m H n d Z' Q e S k=>?_⟩
 unfold se at e;cases a:f Z with
 | none=>rw[a] at e;cases e
 | some dp =>
  obtain⟨ds,Z1⟩:=dp;rw[a] at e;dsimp only[a5] at e;split at e
  ·rename_i r;cases e;refine q j l Z m H n ds _ _ a S λvs H1 Hi1 s u c=>⟨by rw[c.length];exact r,λp v=>?_⟩
   obtain⟨w,g⟩:=s.laid (o:=.tup vs) v;exact k (.ref p) _ _ w (u.trans g) ⟨p,vs,rfl,bb.of bu,ay.mono g c⟩
  ·cases e
noncomputable abbrev aQ:=List Dat->Option Res
noncomputable def RC (K:gj) (H b a:Hp) (v:V):Res->Prop
 | .dat d=>Rep K a d v
 | .own c=>∃p,v=.ref p/\cu K b a p c/\H p=none
noncomputable def aF (K:gj) (fn:aQ):Sp:=λvs H Q _=>∃b ds r,af b H/\ay K b ds vs/\fn ds=some r /\
 ∀v c a,af H c->af b a->af a c->(∀p o,a p=some o->iC b H p o)->RC K H c a v r->Q v c
noncomputable abbrev dM:=Dat->List Dat->Option (Res×Dat)
noncomputable def cV (K:gj) (j:Nat) (fn:dM):Sp:=λvs H Q _=>∃d p c ds r f,af d H/\vs[j]? = some (.ref p)/\cu K H d p c/\ay K d ds (vs.eraseIdx j)/\fn c ds=some (r,f) /\
 ∀v e a,(∀b o,H b=some o->b≠p->e b=some o)->af d a->af a e->(∀p o,a p=some o->iC d H p o)->cu K e a p f->RC K H e a v r->Q v e
def SR.after {K:gj}{k:Hp×Hp}{m:Nat->Option cW}{Z:DS}{t:St}{H j g f:Hp}{v:V}{r:Res}(S:SR K k m Z t H j) (s:af H g) (y:af j f) (A:af f g)
  (nw:∀p o,f p=some o->iC j H p o) (B:RC K H g f v r):SR K k m Z t g f/\RR K k m Z t g f v r:=by
 have own:∀{q:cW}{c:Dat},cu K H j q c->cu K g f q c:=λ{q c} h=>by
  obtain⟨⟨o,e⟩,n⟩:=h.some;refine h.keeps ((s q o e).trans e.symm) y ?_;cases z:f q with
  | none=>rfl
  | some u =>
   rcases nw q u z with w | w | ⟨vs,w⟩
   ·rw[n] at w;cases w
   ·rw[e] at w;cases w
   ·subst w;have:=A _ _ z;rw[s q o e] at this;cases this;exact (h.nt e).elim
 have ne:∀{q p:cW}{c:Dat},cu K H j q c->H p=none->q≠p:=λh n=>di h.some.1.choose_spec n
 refine⟨⟨A,λb o e n=>s b o (S.keep b o e n),λp l z=>?_,λi d e=>?_,λi c e=>?_,λi c e=>?_,S.ne,S.len,λp o e=>?_⟩,?_⟩
 ·cases e:H p with
  | none=>exact S.eF p l e
  | some o=>rw[s p o e] at z;cases z
 ·obtain⟨w,a,b⟩:=S.dat i d e;exact⟨w,a,Rep.mono y b⟩
 ·obtain⟨q,a,b,x,C⟩:=S.own i c e;exact⟨q,a,own b,x,C⟩
 ·obtain⟨q,a,b,x⟩:=S.io i c e;exact⟨q,a,own b,x⟩
 ·rcases nw p o e with z | z | z
  ·exact S.nw p o z
  ·exact .inr (.inl (S.bM z).1)
  ·exact .inr (.inr z)
 ·cases r with
  | dat d=>exact B
  | own c =>
   obtain⟨p,e,o,n⟩:=B;exact⟨p,e,o,(S.bM n).2,(S.bM n).1,S.d6 n⟩
noncomputable def cJ (fn:aQ) (fa:AF):EF:=λZ=>(fa Z).bind λp=>(fn p.1).map λr=>(r,p.2)
structure vY (X:Cx) (x:eT) (sp:Sp):Prop where
 gl:Gl X x
 is:∃(CX:gO) (k:Nat) (f:cW) (fd:hI) (pn:List eT),aV X.prog X.w X.K X.mg X.base CX k f fd pn sp/\cN k X.A/\X.mg x=some (.ref f)/\Wo X.K (.ref f)=true/\Binds X.K fd pn []/\rX CX X E0
theorem F9 (h:vY X x (aF X.K fn))(o:DA X (e::b) fa)(g:bJ x:=by decide)(s:bK X e b:=by rfl)(i:(T3 pos (ph b X.env)).any (·.1)=false:=by rfl):DE X (.Call (.Name x p) (e::b) [] pos) (cJ fn fa):=by
 obtain⟨u,CX,k,f,fd,pn,F,w,y,z,A,hx⟩:=h;obtain⟨t,B,q⟩:=o;refine⟨_,x9 F w u y z A .nil hx B g s i,λC D Z E H G r Z' Q a S k=>?_⟩
 unfold cJ at a;cases c:fa Z with
 | none=>rw[c] at a;cases a
 | some dp =>
  obtain⟨ds,Z1⟩:=dp;rw[c] at a;simp only[a5] at a;cases d:fn ds with
  | none=>rw[d] at a;cases a
  | some r2 =>
   rw[d] at a;cases a;refine q C D Z E H G ds _ _ c S λvs H1 j l I J=>?_
   refine⟨j,ds,_,l.sub,by rw[xr];exact J,d,λv L m M n N O P=>?_⟩
   obtain⟨R,T⟩:=l.after M n N O P;exact k v L m R (I.trans n) T
end
noncomputable def gb (n:Nat) (ds:List Dat):DS:=ds.map Slot.dat++U' (n - ds.length) .no
noncomputable def gX (n:Nat) (f:SF):aQ:=λds=>(f (gb n ds)).bind λo=>match o with
 | .next _=>some (.dat .aK)
 | .ret r _=>some r
 | _=>none
def I0 {K:gj}{N:List eT}{vs:List V}{ds:List Dat}{H k:Hp}(s:af k H) (r:ay K k ds vs):SR K (H,k) (λ_=>none) (gb N.length ds) (L2.start N vs) H k:=by
 have hl:=r.length;have g:∀{i:Nat}{s:Slot},(gb N.length ds)[i]? = some s->(∃d,s=.dat d/\ds[i]? = some d)\/s=.no:=λ{i s} h=>by
  unfold gb at h
  by_cases n:i < ds.length
  ·rw[hH (by simpa using n),cn] at h
   cases e:ds[i]? with
   | none=>rw[e] at h;cases h
   | some d=>rw[e] at h;cases h;exact .inl ⟨d,rfl,rfl⟩
  ·rw[hO (by simpa using n)] at h
   rw[UJ] at h;split at h
   ·cases h;exact .inr rfl
   ·cases h
 refine⟨s,λb o e _=>e,λp l=>?_,λi d e=>?_,λi c e=>?_,λi c e=>?_,λi j c c' p m h2=>?_,?_,λp o e=>.inl e⟩
 ·obtain⟨_,z⟩:=l;cases z
 ·rcases g e with⟨d',f,h⟩ | f
  ·cases f;obtain⟨v,a,b⟩:=r.get h;refine⟨v,?_,b⟩;unfold L2.start;rw[hH (by simpa using (bc.mp a).1),cn,a]
   rfl
  ·cases f
 ·rcases g e with⟨d',f,h⟩ | f <;> cases f
 ·rcases g e with⟨d',f,h⟩ | f <;> cases f
 ·rcases m with m | m <;> (rcases g m with⟨d',f,h⟩ | f <;> cases f)
 ·unfold gb L2.start;simp only[eJ,a8,U3]
  lia
section
variable {P:hJ}{w:kq}{K:gj}{mg:eT->Option b8}{base:m3}
def A1 {x m:eT}{st:Ue}{f:cW}{G:hI}{N y:List eT}{k:Nat}{fn:aQ}{fb:SF}(F:L2.bA K x m st f G) (S:bD N y (aS st)) (B:∀ds r,fn ds=some r->ds.length=y.length)
  (L:∀(n:b8) (A:pl) (outer:List WK) (s:cA) (H:Hp) (E:XK),cN k (A.deeper (Vu m (aS st) s.heap.objs.size f n))->gm (iJ aX P w K mg base N m (aS st) f n A outer s H E).jN (iO st) fb)
  (M:∀ds r,fn ds=some r->gX N.length fb ds=some r):aV P w K mg base aX (k + 1) f G y (aF K fn):=by
 refine F.ok S (λvs H Q E h=>?_) (λn A outer s H vs Q E O h=>?_)
 ·obtain⟨u,ds,r,s,rs,e,_⟩:=h;rw[rs.length];exact B ds r e
 ·obtain⟨u,ds,r,sm,rs,e,I⟩:=h;obtain⟨t,p,q⟩:=L n A outer s H E O;refine⟨t,p,?_⟩;have i:=M ds r e;unfold gX at i;cases D:fb (gb N.length ds) with
  | none=>rw[D] at i;cases i
  | some o =>
   rw[D] at i;dsimp only[a5] at i;have nw:∀{Z:DS}{j:St}{l a:Hp},SR K (H,u) (λ_=>none) Z j l a->∀p o,a p=some o->iC u H p o:=λg p o e=>g.nw p o e
   have kp:∀{Z:DS}{j:St}{l a:Hp},SR K (H,u) (λ_=>none) Z j l a->af H l:=λg b o e=>g.keep b o e (λ⟨_,z⟩=>by cases z)
   refine q (H,u) (λ_=>none) (gb N.length ds) (L2.start N vs) H u o _ D (I0 sm rs) ?_
   cases o with
   | next Z =>
    cases i;exact λj l a g s'=>I .aK l a (kp g) s' g.sub (nw g) rfl
   | ret r' Z =>
    cases i;refine λv j l a g s' J=>I v l a (kp g) s' g.sub (nw g) ?_
    cases r with
    | dat d=>exact J
    | own c =>
     obtain⟨p,R,o,np,T,_⟩:=J;exact⟨p,R,o,T⟩
   | brk Z=>cases i
   | cont Z=>cases i
   | exc C Z=>cases i
end
noncomputable def jM (K:gj) (f:DF):TE:=λb H Q=>∃c e Z g d h,f Z=some (d,h)/\SR K c e Z b H g/\∀v i a,SR K c e h b i a->af g a->Rep K a d v->Q v i
noncomputable def j8 (K:gj) (f:BF):TT:=λb H Q=>∃c e Z g d h,f Z=some (d,h)/\SR K c e Z b H g/\∀i a,SR K c e h b i a->af g a->Q d i
noncomputable def kn (K:gj) (g:GF):TG:=λv h H Q=>∃c e Z b d f,g d Z=some f/\SR K c e Z h H b/\Rep K b d v/\∀a,SR K c e f a H b->Q a H
def DD.ly (h:DD X e f):PE X e (jM X.K f):=by
 obtain⟨t,p,q⟩:=h;rintro a s b H Q I ⟨c,g,Z,i,d,j,l,S,k⟩;exact p a s b H Q I (q c g Z b H i d j Q l S k)
def DG.ly (h:DG X b g):PG X b (kn X.K g):=by
 obtain⟨t,p,q⟩:=h;rintro a s c H v u Q I r ⟨e,f,Z,i,d,j,l,S,m,k⟩;exact p a s c H v u Q I r (q e f Z c H i d j v Q l S m k)
noncomputable def jX (X:Cx) (ifs:List gs) (f:BF):Prop:=PF X ifs (j8 X.K f)
def MA:jX X [] (λZ=>some (true,Z)):=by
 rintro a s b H Q I ⟨H0,ps,Z,c,d,Z',e,S,k⟩;cases e;exact FW a s b H Q I (k H c S (af.refl _))
def GJ (h:DT X c f):jX X [c] f:=by
 obtain⟨t,p,q⟩:=h;rintro a s b H Q I ⟨e,g,Z,i,d,j,l,S,k⟩;exact FD p a s b H Q I (q e g Z b H i d j Q l S k)
noncomputable def noOwn (Z:DS):Bool:=Z.all λs=>match s with | .own _=>false | _=>true
def zo {Z:DS}(h:noOwn Z=true) {i:Nat}{c:Dat}:Z[i]?≠some (.own c):=λe=>by
 have:=j4.mp h _ (eK e);cases this
noncomputable def ba (a:Option (Nat×Nat)):List (Option Nat)->DS->DS
 | [],Z=>Z
 | o::r,Z=>ba a r (match o with
  | some j=>if a.map Zu=some j then Z else (match Z[j]? with | some (.own c)=>Z.set j (.dat c) | _=>Z)
  | none=>Z)
noncomputable def bV (caps:List (Option Nat)) (Z:DS):DS:=caps.map λo=>match o with
 | some j=>(match Z[j]? with | some (.dat d)=>.dat d | _=>.no)
 | none=>.no
noncomputable def compLoop (g:GF) (fc:BF) (fe:DF):List Dat->List Dat->DS->Option (List Dat×DS)
 | [],a,Z=>some (a,Z)
 | x::xs,a,Z=>(g x Z).bind λZ1=>(fc Z1).bind λp=>if p.1=true then (fe p.2).bind λq=>if a.length < bg/\noOwn q.2=true then compLoop g fc fe xs (a++[q.1]) q.2 else none
   else if noOwn p.2=true then compLoop g fc fe xs a p.2 else none
noncomputable def dN (caps:List (Option Nat)) (b:Option (Nat×Nat)) (fi:IF) (g:GF) (fc:BF) (fe:DF):EF:=λZ=>(fi Z).bind λp =>
 let Z1:=ba b caps p.2
 match b with
 | none=>(compLoop g fc fe p.1 [] (bV caps Z1)).map λq=>(.own (.lst q.1),Z1)
 | some (k,j)=>if caps[k]? = some (some j) then (match Z1[j]? with
  | some (.own c)=>(compLoop g fc fe p.1 [] ((bV caps Z1).set k (.io c))).bind λq=>(match q.2[k]? with | some (.io a)=>some (.own (.lst q.1),Z1.set j (.own a)) | _=>none)
  | some (.io c)=>(compLoop g fc fe p.1 [] ((bV caps Z1).set k (.io c))).bind λq=>(match q.2[k]? with | some (.io a)=>some (.own (.lst q.1),Z1.set j (.io a)) | _=>none)
  | _=>none) else none
section
variable {K:gj}{H0:Hp×Hp}{ps:Nat->Option cW}{σ:St}
theorem mX (a):∀(caps:List (Option Nat)) {Z:DS}{H b:Hp},SR K H0 ps Z σ H b->∃d,SR K H0 ps (ba a caps Z) σ H d/\af b d
 | [],_,_,b,S=>⟨b,S,af.refl _⟩
 | none::r,_,_,_,S=>mX a r S
 | some j::r,Z,H,b,S=>by
  unfold ba;dsimp only
  by_cases f:a.map Zu=some j
  ·rw[if_pos f];exact mX a r S
  ·rw[if_neg f];split
   ·rename_i c e;obtain⟨Hi1,v,_,h,i,_⟩:=S.Ad e;obtain⟨g,k,l⟩:=mX a r h;exact⟨g,k,i.trans l⟩
   ·exact mX a r S
def SR.rebase (S:SR K H0 ps Z σ H a)(n:noOwn Z=true):SR K (H,a) ps Z σ H a :=
 ⟨S.sub,λb o e _=>e,S.eF,S.dat,λi c e=>absurd e (zo n),S.io,S.ne,S.len,λp o e=>.inl e⟩
theorem xZ {caps:List (Option Nat)}{Z:DS}{k:Nat}{d:Dat}(h:(bV caps Z)[k]? = some (.dat d)):∃j:Nat,caps[k]? = some (some j)/\Z[j]? = some (.dat d):=by
 unfold bV at h;rw[cn] at h;cases e:caps[k]? with
 | none=>rw[e] at h;cases h
 | some o =>
  rw[e] at h;cases o with
  | none=>cases h
  | some j =>
   refine⟨j,rfl,?_⟩;simp only[px,U8] at h;split at h
   ·rename_i d' a;cases h;exact a
   ·cases h
theorem kS {caps:List (Option Nat)}{Z:DS}{k:Nat}{c:Dat}:(bV caps Z)[k]?≠some (.own c)/\(bV caps Z)[k]?≠some (.io c):=by
 unfold bV;rw[cn];cases e:caps[k]? with
 | none=>simp
 | some o =>
  cases o with
  | none=>simp
  | some j =>
   simp only[px];constructor
   all_goals
    intro z;have z:=Option.some.inj z;split at z <;> cases z
def wK {caps:List (Option Nat)}{k j:Nat}{v:V}(h:caps[k]? = some (some j)) (e:σ[j]? = some (some v)):(d9 caps σ)[k]? = some (some v):=by
 unfold d9;rw[cn,h];simp only[px,a5];rw[e];rfl
def GZ (S:SR K H0 ps Z σ H f):SR K (H,f) (λ_=>none) (bV caps Z) (d9 caps σ) H f:=by
 refine⟨S.sub,λb o e _=>e,λp l=>?_,λk d e=>?_,λk c e=>absurd e kS.1,λk c e=>absurd e kS.2,λk k' c c' p h=>?_,?_,λp o e=>.inl e⟩
 ·obtain⟨_,z⟩:=l;cases z
 ·obtain⟨j,g,i⟩:=xZ e;obtain⟨v,a,b⟩:=S.dat j d i;exact⟨v,wK g a,b⟩
 ·rcases h with h | h
  ·exact absurd h kS.1
  ·exact absurd h kS.2
 ·simp[bV,d9]
end
section
variable {K:gj}{psB:Nat->Option cW}
def B2 {Qf:Hp->Prop}(S0:SR K (u,j) psB Q X u j)(n0:noOwn Q=true)(R:u D=none)(jw:JW K J items j)(ef:compLoop g fc fe items [] Q=some (I,Ze))(Pj:∀k f d vs,SR K (f,d) psB Ze k f d->af j d->(∀b o,u b=some o->¬fL psB b->f b=some o)->(∀p o,d p=some o->iC j u p o)->f D=some (.lst vs)->ay K d I vs->d D=none->Qf f) :
  ∃W:Nat->Nat->St->Hp->Prop,(∃m,W 0 m X (upd u D (.lst [])))/\∀i m k f,W i m k f->(J.stop i f/\Qf f)\/(J.go i f/\∀x B,J.lS i f x B->kn K g x k B λC H2=>j8 K fc C H2 λb H3 =>
   if b=true then jM K fe C H3 λy E=>∃ys,E D=some (.lst ys)/\ys.length < bg/\∃L,L < m/\W (i + 1) L C (upd E D (.lst (ys++[y])))
   else ∃L,L < m/\W (i + 1) L C H3):=by
 have nl:¬fL psB D:=λl=>S0.eF D l R
 have Y:j D=none:=S0.dy R;have M:∀{Z:DS}{σ:St}{H N:Hp}{H0:Hp×Hp}(vs:List V),SR K H0 psB Z σ H N->noOwn Z=true->N D=none->SR K (upd H D (.lst vs),N) psB Z σ (upd H D (.lst vs)) N:=λ{Z σ H N H0} vs S n hd=>by
  refine⟨qI S.sub hd,λb o e _=>e,λp l=>?_,S.dat,λi c e=>absurd e (zo n),λi c e=>?_,S.ne,S.len,λp o e=>.inl e⟩
  ·have hp:p≠D:=λz=>nl (by rw[<- z];exact l)
   rw[aA hp];exact S.eF p l
  ·obtain⟨q,a,b,c1⟩:=S.io i c e;have hq:q≠D:=λz=>nl (by rw[<- z];exact⟨i,c1⟩)
   exact⟨q,a,b.keeps (aA hq) (af.refl _) b.some.2,c1⟩
 refine⟨λi m k f=>m=items.length - i/\i<=items.length/\∃Z d F vs,SR K (f,d) psB Z k f d/\noOwn Z=true/\af j d/\(∀b o,u b=some o->¬fL psB b->f b=some o)/\(∀p o,d p=some o->iC j u p o) /\
   f D=some (.lst vs)/\ay K d F vs/\d D=none/\compLoop g fc fe (items.drop i) F Z=some (I,Ze),
  ⟨items.length,by simp,qh _,Q,j,[],[],M [] S0 n0 Y,n0,af.refl _,λb o e _=>by rw[aA (di e R)];exact e,λp o e=>.inl e,bu,rfl,Y,by simpa using ef⟩,?_⟩
 rintro i m k f ⟨rfl,hi,Z,d,F,vs,S,n,sm,kb,nb,T,ra,hd,h⟩;have O:=jw i f (sm.trans S.sub);have base:∀{p:cW},f p=none->u p=none:=λ{p} z=>by
  cases e:u p with
  | none=>rfl
  | some o =>
   by_cases l:fL psB p
   ·exact absurd z (S.eF p l)
   ·rw[kb p o e l] at z;cases z
 by_cases G:i < items.length
 ·have ed:items.drop i=items[i]::items.drop (i + 1):=Wg G;have eg:items[i]? = some items[i]:=cm G;rw[ed] at h;dsimp only[compLoop] at h;cases e2:g items[i] Z with
  | none=>rw[e2] at h;cases h
  | some Z1 =>
   simp only[e2] at h;simp only[a5] at h;cases e3:fc Z1 with
   | none=>rw[e3] at h;cases h
   | some bp =>
    obtain⟨b,Z2⟩:=bp;rw[e3] at h;simp only[a5] at h;refine .inr ⟨(O.1 _ eg).1,λx B y=>?_⟩
    obtain⟨s,Po,P,rx⟩:∃s,SR K (f,d) psB Z k B s/\af d s/\Rep K s items[i] x:=by
     rcases (O.1 _ eg).2 x B y with⟨rfl,r⟩ | ⟨p,ob,nn,rfl,r⟩
     ·exact⟨d,S,af.refl _,Rep.mono sm r⟩
     ·obtain⟨a,b⟩:=S.laid (o:=ob) nn;exact⟨_,a,b,r d sm (S.dy nn)⟩
    refine⟨(f,d),psB,Z,s,_,Z1,e2,Po,rx,λC S2=>?_⟩
    refine⟨(f,d),psB,Z1,s,b,Z2,e3,S2,λH3 be S3 s3=>?_⟩
    have kp:∀{Z4:DS}{yq:St}{E t:Hp},SR K (f,d) psB Z4 yq E t->E D=some (.lst vs)/\t D=none/\(∀b o,u b=some o->¬fL psB b->E b=some o)/\(∀p o,t p=some o->iC j u p o):=λ{Z4 yq E t} A=>by
     refine⟨A.keep D _ T nl,?_,λb o e l=>A.keep b o (kb b o e l) l,λp o e=>?_⟩
     ·cases z:t D with
      | none=>rfl
      | some o =>
       rcases A.nw D o z with w | w | ⟨ts,w⟩
       ·have w:d D=some o:=w;rw[hd] at w;cases w
       ·have w:f D=none:=w;rw[T] at w;cases w
       ·subst w;have t1:=A.sub _ _ z;rw[A.keep D _ T nl] at t1;cases t1
     ·rcases A.nw p o e with w | w | w
      ·exact nb p o w
      ·exact .inr (.inl (base w))
      ·exact .inr (.inr w)
    cases b with
    | false =>
     simp only[mA,if_false] at h;split at h
     ·rename_i n2;obtain⟨a1,U,a3,a4⟩:=kp S3;exact⟨items.length - (i + 1),by omega,rfl,G,Z2,be,F,vs,S3.rebase n2,n2,(sm.trans P).trans s3,a3,a4,a1,ay.mono (P.trans s3) ra,U,h⟩
     ·cases h
    | true =>
     simp only[if_true] at h;cases e4:fe Z2 with
     | none=>rw[e4] at h;cases h
     | some yp =>
      obtain⟨yd,Z3⟩:=yp;rw[e4] at h;dsimp only[a5] at h;split at h
      ·rename_i hz;refine⟨(f,d),psB,Z2,be,yd,Z3,e4,S3,λv E t A s4 ry=>?_⟩
       obtain⟨a1,U,a3,a4⟩:=kp A;have sa:af d t:=(P.trans s3).trans s4;refine⟨vs,a1,by rw[ra.length];exact hz.1,items.length - (i + 1),by omega,rfl,G,Z3,t,F++[yd],vs++[v],M _ A hz.2 U,hz.2,sm.trans sa,λb o e l=>?_,a4,bu,ay.append (ay.mono sa ra) ⟨v,[],rfl,ry,rfl⟩,U,h⟩
       rw[aA (di e R)];exact a3 b o e l
      ·cases h
 ·have ei:i=items.length:=by lia
  subst ei;rw[XQ] at h;cases h;exact .inl ⟨O.2 (eS _),Pj k f d vs S sm kb nb T ra hd⟩
end
section
variable {X:Cx}{pos:qe}
theorem BJ:noOwn (bV caps Z)=true:=by
 unfold noOwn;rw[j4];intro s a;obtain⟨k,b⟩:=List.getElem?_of_mem a;cases s with
 | own c=>exact absurd b kS.1
 | _=>rfl
theorem yM (A:∀(f:Hp×Hp) (h:Nat->Option cW) (Z:DS) (a:St) (H j:Hp) (items:List Dat) (l:DS) (R:It->Hp->Prop),fi Z=some (items,l)->SR X.K f h Z a H j->(∀J n i,SR X.K f h l a n i->af j i->JW X.K J items i->R J n)->t a H R)(f)(h)(Z)(a)(H j)(r)(l)(Q)(c:dN caps none fi g fc fe Z=some (r,l))(S:SR X.K f h Z a H j)(k:∀v m d,SR X.K f h l a m d->af j d->RR X.K f h l a m d v r->Q v m):rV (d9 caps) t (kn X.K g) (j8 X.K fc) (jM X.K fe) a H Q:=by
 unfold dN at c;cases p:fi Z with
 | none=>simp only[p] at c;cases c
 | some dp =>
  obtain⟨items,Z1⟩:=dp;rw[p] at c;simp only[a5] at c;cases s:compLoop g fc fe items [] (bV caps (ba none caps Z1)) with
  | none=>rw[s] at c;cases c
  | some q =>
   obtain⟨u,Ze⟩:=q;rw[s] at c;cases c;refine A f h Z a H j items Z1 _ p S λJ n i B C E=>?_
   intro D w;obtain⟨Hi2,x,y⟩:=mX none caps B;refine B2 (psB:=λ_=>none) (GZ (caps:=caps) x) BJ w (E.mono y) s fun σ' m d vs F sm kb G I ra hd=>?_
   have L:af n m:=λb o e=>kb b o e (λ⟨_,z⟩=>by cases z)
   obtain⟨M,N⟩:=x.after (v:=.ref D) (r:=.own (.lst u)) L sm F.sub G ⟨D,rfl,⟨vs,I,ra,hd⟩,w⟩;exact k (.ref D) m d M ((C.trans y).trans sm) N
def Eo (f:X.calm=true)(B:gR X.env.scope scope)(e:fH X.N NB scope caps=true)(h:dn X d iter fi)(i:∀(b:List (eT×cW)) (C:cW) (a:cA) (H:Hp) (c:List cW),DG (bT X NB scope b C a H c) d g)(j:∀(b:List (eT×cW)) (C:cW) (a:cA) (H:Hp) (c:List cW),jX (bT X NB scope b C a H c) ifs fc)(k:∀(b:List (eT×cW)) (C:cW) (a:cA) (H:Hp) (c:List cW),DD (bT X NB scope b C a H c) elt fe)(l:∀x,n5 iter X.env x=pure x:=by intro _;rfl) :
  DE X (.ListComp elt [⟨d,iter,ifs,0⟩] scope pos) (dN caps none fi g fc fe):=by
 obtain⟨wi,m,n⟩:=h;exact⟨_,BB (NB:=NB) (caps:=caps) (g:=kn X.K g) (tc:=j8 X.K fc) (te:=jM X.K fe) f B e m (λb C a H c=>⟨(i b C a H c).ly,j b C a H c,(k b C a H c).ly⟩) l,yM n⟩
theorem EU (i:Nat)(q:X.N.Nodup)(m:X.N[i]? = some y)(s:Loc X.env.scope y)(t:X.fn y=true\/X.env.scope.names.lookup y=some .local)(u:X.calm=true)(B:gR X.env.scope scope)(h:fH X.N NB scope caps=true)(w:dn X f iter fi)(z:∀(b:List (eT×cW)) (C:cW) (a:cA) (H:Hp) (c:List cW),DG (bT X NB scope b C a H c) f g)(A:∀(b:List (eT×cW)) (C:cW) (a:cA) (H:Hp) (c:List cW),jX (bT X NB scope b C a H c) ifs fc)(E:∀(b:List (eT×cW)) (C:cW) (a:cA) (H:Hp) (c:List cW),DD (bT X NB scope b C a H c) elt fe)(n:r0 (.ListComp elt [⟨f,iter,ifs,0⟩] scope pos) (some (.Name y py)) d.line X.env=pure true)(F:∀x,n5 iter X.env x=pure x:=by intro _;rfl) :
  cp X (.Assign [.Name y py] (.ListComp elt [⟨f,iter,ifs,0⟩] scope pos) d) (fW i (dN caps none fi g fc fe)):=by
 obtain⟨wi,G,I⟩:=w;refine⟨_,OI (NB:=NB) (caps:=caps) (g:=kn X.K g) (tc:=j8 X.K fc) (te:=jM X.K fe) q m s u B h G (λb C a H c=>⟨(z b C a H c).ly,A b C a H c,(E b C a H c).ly⟩) n F t,λJ L Z M H O o D e S k=>?_⟩
 unfold fW at e;cases j:dN caps none fi g fc fe Z with
 | none=>rw[j] at e;cases e
 | some dp =>
  obtain⟨r,Z1⟩:=dp;rw[j] at e;simp only[a5] at e;cases l:gw i r Z1 with
  | none=>rw[l] at e;cases e
  | some Z2 =>
   rw[l] at e;cases e;exact yM I J L Z M H O r Z1 _ j S λv P p Q s' R=>k _ P p (Q.put R l) s'
end
end DV
end
section
namespace L2
open PySem PySem.Spec PyProof.Rows
section
variable {X:Cx}{a b:gs}{ta tb:TE}{pos:qe}{rest:List gs}
noncomputable def D5 (K:gj) (ta tb:TE):TE:=λe H Q=>ta e H λx d=>∃c,pE K x d c/\if c=true then Q x d else tb e d Q
noncomputable def LC (K:gj) (ta tb:TE):TE:=λe H Q=>ta e H λx d=>∃c,pE K x d c/\if c=true then tb e d Q else Q x d
theorem EK (m:PE X a ta) (n:PE X (.BoolOp .Or (b::rest) pos) tb):PE X (.BoolOp .Or (a::b::rest) pos) (D5 X.K ta tb):=by
 intro d s f H Q I h;refine BoolOp_or (aB (m d s f H _ I h) λv o ⟨x,i,p,j,c,tc,k⟩=>?_)
 refine aB (vH d o f i x v (λg e=>g=c/\e=i) p j ⟨c,tc,rfl,rfl⟩) λg q ⟨e,l,r,t⟩=>?_
 subst r t;cases g with
 | false=>exact n d q f e Q l k
 | true=>exact⟨x,e,l,j,k⟩
theorem ON (m:PE X a ta) (n:PE X (.BoolOp .And (b::rest) pos) tb):PE X (.BoolOp .And (a::b::rest) pos) (LC X.K ta tb):=by
 intro d s f H Q I h;refine BoolOp_and (aB (m d s f H _ I h) λv o ⟨x,i,p,j,c,tc,k⟩=>?_)
 refine aB (vH d o f i x v (λg e=>g=c/\e=i) p j ⟨c,tc,rfl,rfl⟩) λg q ⟨e,l,r,t⟩=>?_
 subst r t;cases g with
 | true=>exact n d q f e Q l k
 | false=>exact⟨x,e,l,j,k⟩
end
end L2
namespace DV
open PySem PySem.Spec PyProof.Rows L2
noncomputable def jy:Dat->Option Bool
 | .aK=>some false
 | .bl b=>some b
 | .int i=>some (i != 0)
 | .str x=>if x.length<=bg then some ((x.length:Int) != 0) else none
 | .lst ds=>some (!ds.isEmpty)
 | .tup ds=>some (!ds.isEmpty)
 | .bN a=>some (!a.isEmpty)
 | .exc _=>none
 | .ins _ _=>none
 | .cU _=>none
 | .adr _=>none
 | .dE _=>none
 | .aY _ _=>none
def vL {a b:Type}{xs:List a}{ys:List b}(h:xs.length=ys.length):xs.isEmpty=ys.isEmpty:=by
 cases xs <;> cases ys <;> first | rfl | (simp at h)
theorem bH.length {K:gj}{H:Hp}:∀{a:List (eT×Dat)}{kvs:List (Key×V)},bH K H a kvs->kvs.length=a.length
 | [],_,h=>by rw[show _=[] from h];rfl
 | (_,_)::_,_,⟨v,r,e,q,t⟩=>by simp only[e,fk,fk,bH.length t]
theorem vO {K:gj}{H a:Hp}{d:Dat}{v:V}{c:Bool}(s:af a H) (r:Rep K a d v) (e:jy d=some c):pE K v H c:=by
 cases d with
 | aK=>cases r;cases e;exact rfl
 | bl b=>cases r;cases e;exact rfl
 | int i=>cases r;cases e;exact rfl
 | str x =>
  cases r;have e:(if x.length<=bg then some ((x.length:Int) != 0) else none)=some c:=e
  split at e
  ·rename_i g;cases e;exact⟨g,rfl⟩
  ·cases e
 | lst ds =>
  obtain⟨p,vs,rfl,q,rs⟩:=r;cases e;exact .inl ⟨vs,.inl (Rd.mono s q),by rw[vL rs.length]⟩
 | tup ds =>
  obtain⟨p,vs,rfl,q,rs⟩:=r;cases e;exact .inr (.inl ⟨vs,bb.mono s q,by rw[vL rs.length]⟩)
 | bN f =>
  obtain⟨p,vs,rfl,q,rs⟩:=r;cases e;exact .inr (.inr ⟨vs,s _ _ q,by rw[vL (bH.length rs)]⟩)
 | exc C=>cases e
 | ins C fs=>cases e
 | cU ns=>cases e
 | adr p=>cases e
 | dE f=>cases e
 | aY fz f=>cases e
noncomputable def mz (f:DF):BF:=λZ=>(f Z).bind λp=>(jy p.1).map λc=>(c,p.2)
noncomputable def eI (f:EF):BF:=λZ=>(f Z).bind λp=>match p.1 with
 | .dat (.bl b)=>some (b,p.2)
 | _=>none
noncomputable def oG (f:BF):BF:=λZ=>(f Z).map λp=>(!p.1,p.2)
noncomputable def m7 (f g:BF):BF:=λZ=>(f Z).bind λp=>if p.1=true then g p.2 else some (false,p.2)
noncomputable def m9 (f g:BF):BF:=λZ=>(f Z).bind λp=>if p.1=true then some (true,p.2) else g p.2
noncomputable def r9 (f g:DF):DF:=λZ=>(f Z).bind λp=>(jy p.1).bind λc=>if c=true then g p.2 else some p
noncomputable def rf (f g:DF):DF:=λZ=>(f Z).bind λp=>(jy p.1).bind λc=>if c=true then some p else g p.2
section
variable {X:Cx}{a b:gs}{rest:List gs}{pos:qe}
theorem E7 (h:DD X a f)(n:∀g,Xr a X.env g=(do let v <- g;Xn a.pos;Ub [v] (Y8 v))):DT X a (mz f):=by
 obtain⟨t,p,q⟩:=h;refine⟨_,NZ p n,λo s Z u H w c Z' Q e S k=>?_⟩
 unfold mz at e;cases i:f Z with
 | none=>rw[i] at e;cases e
 | some dp =>
  obtain⟨d,Z1⟩:=dp;rw[i] at e;simp only[a5] at e;cases j:jy d with
  | none=>rw[j] at e;cases e
  | some c' =>
   rw[j] at e;cases e;exact q o s Z u H w d _ _ i S λv x l m s' r=>⟨_,vO m.sub r j,k x l m s'⟩
theorem km (j:aI X (l4 op) r)(l:eE X r d)(m:DD X a f)(n:DD X b g)(o:r3 op b=false):DT X (.Compare a [op] [b] pos) (eI (cg d f g)):=by
 obtain⟨ta,p,q⟩:=m;obtain⟨tb,s,t⟩:=n;refine⟨_,xg j p s o,λu w Z x H y c Z' Q e S k=>?_⟩
 unfold eI at e;cases h:cg d f g Z with
 | none=>rw[h] at e;cases e
 | some dp =>
  obtain⟨rs,Z1⟩:=dp;rw[h] at e;simp only[a5] at e;split at e
  ·cases e;exact wI l q t u w Z x H y _ _ _ h S λv z i A s' B=>⟨_,B,k z i A s'⟩
  ·cases e
theorem FC (h:DT X a f):DT X (.UnaryOp .Not a pos) (oG f):=by
 obtain⟨t,p,q⟩:=h;refine⟨_,Kz p,λj l Z m H n c Z' Q e S k=>?_⟩
 unfold oG at e;cases g:f Z with
 | none=>rw[g] at e;cases e
 | some dp =>
  obtain⟨d,Z1⟩:=dp;rw[g] at e;cases e;exact q j l Z m H n d _ _ g S λo i r s'=>k o i r s'
def GW (h:DT X a f):DW X (.BoolOp .And [a] pos) f:=let ⟨t,p,q⟩:=h;⟨t,N5 p,q⟩
def OD (h:DT X a f):DW X (.BoolOp .Or [a] pos) f:=let ⟨t,p,q⟩:=h;⟨t,Kj p,q⟩
theorem Fs (r:DT X a f)(s:DW X (.BoolOp .And (b::rest) pos) g):DW X (.BoolOp .And (a::b::rest) pos) (m7 f g):=by
 obtain⟨t1,t,u⟩:=r;obtain⟨t2,v,w⟩:=s;refine⟨_,Nq t v,λj l Z m H x c n Q e S k=>?_⟩
 unfold m7 at e;cases i:f Z with
 | none=>rw[i] at e;cases e
 | some dp =>
  obtain⟨d,Z1⟩:=dp;rw[i] at e;dsimp only[a5] at e;refine u j l Z m H x d Z1 _ i S λo h p s'=>?_
  cases d with
  | true=>exact w j l Z1 m o h c n Q e p λy q z A=>k y q z (s'.trans A)
  | false =>
   have e:some (false,Z1)=some (c,n):=e;cases e;exact k o h p s'
theorem Fb (r:DT X a f)(s:DW X (.BoolOp .Or (b::rest) pos) g):DW X (.BoolOp .Or (a::b::rest) pos) (m9 f g):=by
 obtain⟨t1,t,u⟩:=r;obtain⟨t2,v,w⟩:=s;refine⟨_,Eu t v,λj l Z m H x c n Q e S k=>?_⟩
 unfold m9 at e;cases i:f Z with
 | none=>rw[i] at e;cases e
 | some dp =>
  obtain⟨d,Z1⟩:=dp;rw[i] at e;dsimp only[a5] at e;refine u j l Z m H x d Z1 _ i S λo h p s'=>?_
  cases d with
  | false=>exact w j l Z1 m o h c n Q e p λy q z A=>k y q z (s'.trans A)
  | true =>
   have e:some (true,Z1)=some (c,n):=e;cases e;exact k o h p s'
def Hc {op}(h:DD X a f):DD X (.BoolOp op [a] pos) f:=let ⟨t,p,q⟩:=h;⟨t,Nc p,q⟩
theorem HJ (u:DD X a f)(w:DD X (.BoolOp .And (b::rest) pos) g):DD X (.BoolOp .And (a::b::rest) pos) (r9 f g):=by
 obtain⟨t1,x,y⟩:=u;obtain⟨t2,z,A⟩:=w;refine⟨_,ON x z,λm n Z o H B c p Q e S k=>?_⟩
 unfold r9 at e;cases i:f Z with
 | none=>rw[i] at e;cases e
 | some dp =>
  obtain⟨d,Z1⟩:=dp;rw[i] at e;dsimp only[a5] at e;cases j:jy d with
  | none=>rw[j] at e;cases e
  | some q =>
   rw[j] at e;simp only[a5] at e;refine y m n Z o H B d Z1 _ i S λv s h l s' r=>⟨q,vO l.sub r j,?_⟩
   cases q with
   | true=>exact A m n Z1 o s h c p Q e l λC D t E F G=>k C D t E (s'.trans F) G
   | false =>
    have e:some (d,Z1)=some (c,p):=e;cases e;exact k v s h l s' r
theorem M4 (u:DD X a f)(w:DD X (.BoolOp .Or (b::rest) pos) g):DD X (.BoolOp .Or (a::b::rest) pos) (rf f g):=by
 obtain⟨t1,x,y⟩:=u;obtain⟨t2,z,A⟩:=w;refine⟨_,EK x z,λm n Z o H B c p Q e S k=>?_⟩
 unfold rf at e;cases i:f Z with
 | none=>rw[i] at e;cases e
 | some dp =>
  obtain⟨d,Z1⟩:=dp;rw[i] at e;dsimp only[a5] at e;cases j:jy d with
  | none=>rw[j] at e;cases e
  | some q =>
   rw[j] at e;simp only[a5] at e;refine y m n Z o H B d Z1 _ i S λv s h l s' r=>⟨q,vO l.sub r j,?_⟩
   cases q with
   | false=>exact A m n Z1 o s h c p Q e l λC D t E F G=>k C D t E (s'.trans F) G
   | true =>
    have e:some (d,Z1)=some (c,p):=e;cases e;exact k v s h l s' r
end
mutual
noncomputable def toPy:Dat->PyData
 | .aK=>.none
 | .bl b=>.bool b
 | .int i=>.int i
 | .str x=>.str x
 | .tup xs=>.tuple (bY xs)
 | .lst xs=>.list (bY xs)
 | .bN _=>.dict []
 | .exc _=>.none
 | .ins _ _=>.none
 | .cU _=>.none
 | .adr _=>.none
 | .dE _=>.none
 | .aY _ _=>.none
noncomputable def bY:List Dat->List PyData
 | []=>[]
 | d::r=>toPy d::bY r
end
mutual
/-- no dict within -/
noncomputable def fB:Dat->Bool
 | .tup xs=>gY xs
 | .lst xs=>gY xs
 | .bN _=>false
 | .exc _=>false
 | .ins _ _=>false
 | .cU _=>false
 | .adr _=>false
 | .dE _=>false
 | .aY _ _=>false
 | _=>true
noncomputable def gY:List Dat->Bool
 | []=>true
 | d::r=>fB d && gY r
end
section
variable {X:Cx}{pins:List (Addr×Obj)}{σ:St}{H Hi:Hp}{s:Shared}
mutual
theorem hZ (I:Inv X pins σ H s) (sm:af Hi H):∀{d:Dat}{v:V}{u:Value},fB d=true->Rep X.K Hi d v->RelV v u->∃as,Reads s.heap u (toPy d) as
 | .aK,_,_,_,r,q=>by
  cases r
  cases q
  exact⟨_,.none⟩
 | .bl b,_,_,_,r,q=>by
  cases r
  cases q
  exact⟨_,.bool b⟩
 | .int i,_,_,_,r,q=>by
  cases r
  obtain⟨t,rfl⟩:=q
  exact⟨_,.int i t⟩
 | .str x,_,_,_,r,q=>by
  cases r
  obtain⟨t,rfl⟩:=q
  exact⟨_,.str x t⟩
 | .tup ds,_,_,p,r,q=>by
  obtain⟨a,vs,rfl,e,rs⟩:=r
  cases q
  obtain⟨its,f,⟨o,c,g,n,k⟩,_⟩:=I.tuple (bb.mono sm e)
  obtain⟨as,h⟩:=oO I sm (show gY ds=true from p) rs f
  exact⟨_,.tuple c g k (by simpa using h)⟩
 | .lst ds,_,_,p,r,q=>by
  obtain⟨a,vs,rfl,e,rs⟩:=r
  cases q
  obtain⟨z,its,n,f,c⟩:=(Rd.mono sm e).ok I.ai
  obtain⟨as,h⟩:=oO I sm (show gY ds=true from p) rs f
  exact⟨_,.list c rfl rfl (by simpa using h)⟩
 | .bN _,_,_,p,_,_=>by cases p
 | .exc _,_,_,p,_,_=>by cases p
 | .ins _ _,_,_,p,_,_=>by cases p
 | .cU _,_,_,p,_,_=>by cases p
 | .adr _,_,_,p,_,_=>by cases p
 | .dE _,_,_,p,_,_=>by cases p
 | .aY _ _,_,_,p,_,_=>by cases p
theorem oO (I:Inv X pins σ H s) (sm:af Hi H):∀{ds:List Dat}{vs:List V}{j:List Value},gY ds=true->ay X.K Hi ds vs->aC vs j->∃as,ReadsAll s.heap j (bY ds) as
 | [],_,_,_,r,q=>by
  cases (show _=[] from r)
  cases q
  exact⟨_,.nil⟩
 | d::ds,_,_,p,r,q=>by
  obtain⟨v,vr,rfl,l,m⟩:=r
  cases q with
  | cons w y =>
   have p:=hG.mp (show (fB d && gY ds)=true from p)
   obtain⟨as,c⟩:=hZ I sm p.1 l w
   obtain⟨bs,g⟩:=oO I sm p.2 m y
   exact⟨_,.cons c g⟩
end
end
noncomputable def bB (d:Dat):Bool:=fB d && SeqAt.shaped (toPy d)
noncomputable def cw (d e:Dat):Bool:=PyData.eqv (toPy d) (toPy e)
noncomputable def xm (a:Bool):Dat->Dat->Option Res
 | .lst (_::_),.lst []=>some (.dat (.bl a))
 | _,_=>none
noncomputable def dP (a:Bool):Dat->Dat->Option Res:=λd e=>if bB d && bB e then some (.dat (.bl (if a then !cw d e else cw d e))) else xm a d e
noncomputable def wV (K:W.Frag) (b:Bool):R2:=λx y H Q=>∃a d e,af a H/\Rep K a d x/\Rep K a e y/\bB d=true/\bB e=true/\Q (.bl (if b then !cw d e else cw d e)) H
noncomputable def vS (a:Bool):R2:=λx y H Q=>∃l b z c,x=.ref l/\y=.ref b/\Rd H l (.lst (z::c))/\Rd H b (.lst [])/\Q (.bl a) H
noncomputable def wk (K:W.Frag) (a:Bool):R2:=λx y H Q=>wV K a x y H Q\/vS a x y H Q
section
variable {X:Cx}
def IH (c:X.A.units + 64 < cLine):aI X (compareOp .Eq) (wV X.K false):=by
 intro pins s σ H x y v u Q I rx f h;obtain⟨Hi,d,e,sm,g,i,a,b,q⟩:=h;have a:=hG.mp a;have b:=hG.mp b;obtain⟨as,j⟩:=hZ I sm a.1 g rx;obtain⟨bs,k⟩:=hZ I sm b.1 i f;exact eq_dataH j k a.2 b.2 c ⟨.bl (cw d e),H,I,rfl,q⟩
def HI (c:X.A.units + 64 < cLine):aI X (compareOp .NotEq) (wV X.K true):=by
 intro pins s σ H x y v u Q I rx f h;obtain⟨Hi,d,e,sm,g,i,a,b,q⟩:=h;have a:=hG.mp a;have b:=hG.mp b;obtain⟨as,j⟩:=hZ I sm a.1 g rx;obtain⟨bs,k⟩:=hZ I sm b.1 i f;exact ne_dataH j k a.2 b.2 c ⟨.bl (!cw d e),H,I,rfl,q⟩
def AU (I:Inv X a g H s)(i:Rd H l (.lst (z::h)))(j:Rd H b (.lst [])):∃d f:Array Value,s.heap.IsList l d/\s.heap.IsList b f/\(d.size != f.size)=true:=by
 obtain⟨z1,its,n,r,e⟩:=i.ok I.ai;obtain⟨z2,c,n2,k,m⟩:=j.ok I.ai;have o:=r.length;have p:=k.length;refine⟨its.toArray,c.toArray,⟨_,e,rfl,n,rfl⟩,⟨_,m,rfl,n2,rfl⟩,?_⟩;simp only[e7,e7,<- o,<- p];rfl
def Gv (hu:X.A.units + 64 < cLine):aI X (compareOp .Eq) (vS false):=by
 intro pins s σ H x y v u Q I rx d h;obtain⟨l,b,z,zs,rfl,rfl,e,f,q⟩:=h;cases rx;cases d;obtain⟨i1,i2,a,c,g⟩:=AU I e f;exact SeqAt.RcAt.lists_lengths a c g (by lia) _ _ _ _ ⟨.bl false,H,I,rfl,q⟩
def Ma (hu:X.A.units + 64 < cLine):aI X (compareOp .NotEq) (vS true):=by
 intro pins s σ H x y v u Q I rx d h;obtain⟨l,b,z,zs,rfl,rfl,e,f,q⟩:=h;cases rx;cases d;obtain⟨i1,i2,a,c,g⟩:=AU I e f;exact SeqAt.RcNeAt.lists_lengths a c g (by lia) _ _ _ _ ⟨.bl true,H,I,rfl,q⟩
def Cy (a:X.A.units + 64 < cLine):aI X (compareOp .Eq) (wk X.K false):=aI.or (IH a) (Gv a)
def B1 (a:X.A.units + 64 < cLine):aI X (compareOp .NotEq) (wk X.K true):=aI.or (HI a) (Ma a)
def rL:eE X (wk X.K b) (dP b):=by
 intro H0 ps Z σ H c x y d d' o Q e S rx f k;unfold dP at e;split at e
 ·rename_i a;have a:=hG.mp a;cases e;exact .inl ⟨c,d,d',S.sub,rx,f,a.1,a.2,k _ H c S (af.refl _) rfl⟩
 ·unfold xm at e;split at e
  ·cases e;obtain⟨p,vs,rfl,g,h⟩:=rx;obtain⟨i,j,rfl,l,m⟩:=f;obtain⟨z,n,rfl,_,_⟩:=h;cases (show j=[] from m)
   exact .inr ⟨p,i,z,n,rfl,rfl,Rd.mono S.sub g,Rd.mono S.sub l,k _ H c S (af.refl _) rfl⟩
  ·cases e
noncomputable def inD (d:Dat) (ds:List Dat):Bool:=(bY ds).any λy=>PyData.eqv y (toPy d)
noncomputable def vc (a:Bool):Dat->Dat->Option Res
 | d,.lst ds=>if bB d && bB (.lst ds) then some (.dat (.bl (if a then !inD d ds else inD d ds))) else none
 | d,.tup ds=>if bB d && bB (.tup ds) then some (.dat (.bl (if a then !inD d ds else inD d ds))) else none
 | .str x,.str y=>some (.dat (.bl (if a then !(!(Builtin.Str.occurrences y x 0 y.length 1).isEmpty) else !(Builtin.Str.occurrences y x 0 y.length 1).isEmpty)))
 | _,_=>none
noncomputable def sT (K:W.Frag) (b:Bool):R2:=λx y H Q=>∃a d ds c,(c=.lst ds\/c=.tup ds)/\af a H/\Rep K a d x/\Rep K a c y/\bB d=true/\bB c=true/\Q (.bl (if b then !inD d ds else inD d ds)) H
noncomputable def mh (K:W.Frag) (a:Bool):R2:=λx y H Q=>sT K a x y H Q\/(λx y H Q=>∃i j,x=.str i/\y=.str j/\Q (.bl (if a then !(!(Builtin.Str.occurrences j i 0 j.length 1).isEmpty) else !(Builtin.Str.occurrences j i 0 j.length 1).isEmpty)) H) x y H Q
def Ij (e:X.A.units + 65 < cLine):aI X (compareOp .In) (sT X.K false):=by
 intro pins s σ H x y v u Q I rx i h;obtain⟨Hi,d,ds,c,j,sm,k,l,a,b,q⟩:=h;have a:=hG.mp a;have b:=hG.mp b;obtain⟨as,f⟩:=hZ I sm a.1 k rx;obtain⟨bs,g⟩:=hZ I sm b.1 l i
 rcases j with rfl | rfl
 ·exact SeqAt.in_list_reads g f (SeqAt.canLay_of_shaped b.2) (SeqAt.canLay_of_shaped a.2) (room_in_shaped a.2 e) ⟨.bl (inD d ds),H,I,rfl,q⟩
 ·exact SeqAt.in_tuple_reads g f (SeqAt.canLay_of_shaped b.2) (SeqAt.canLay_of_shaped a.2) (room_in_shaped a.2 e) ⟨.bl (inD d ds),H,I,rfl,q⟩
def Gi (e:X.A.units + 65 < cLine):aI X (compareOp .NotIn) (sT X.K true):=by
 intro pins s σ H x y v u Q I rx i h;obtain⟨Hi,d,ds,c,j,sm,k,l,a,b,q⟩:=h;have a:=hG.mp a;have b:=hG.mp b;obtain⟨as,f⟩:=hZ I sm a.1 k rx;obtain⟨bs,g⟩:=hZ I sm b.1 l i
 rcases j with rfl | rfl
 ·exact SeqAt.notIn_list_reads g f (SeqAt.canLay_of_shaped b.2) (SeqAt.canLay_of_shaped a.2) (room_in_shaped a.2 e) ⟨.bl (!inD d ds),H,I,rfl,q⟩
 ·exact SeqAt.notIn_tuple_reads g f (SeqAt.canLay_of_shaped b.2) (SeqAt.canLay_of_shaped a.2) (room_in_shaped a.2 e) ⟨.bl (!inD d ds),H,I,rfl,q⟩
def HA (a:X.A.units + 65 < cLine):aI X (compareOp .In) (mh X.K false):=aI.or (Ij a) J8
def Eh (a:X.A.units + 65 < cLine):aI X (compareOp .NotIn) (mh X.K true):=aI.or (Gi a) DC
def Er:eE X (mh X.K c) (vc c):=by
 intro H0 ps Z σ H b x y d d' o Q e S rx f k;unfold vc at e;split at e
 ·split at e
  ·rename_i a;have a:=hG.mp a;cases e;exact .inl ⟨b,d,_,_,.inl rfl,S.sub,rx,f,a.1,a.2,k _ H b S (af.refl _) rfl⟩
  ·cases e
 ·split at e
  ·rename_i a;have a:=hG.mp a;cases e;exact .inl ⟨b,d,_,_,.inr rfl,S.sub,rx,f,a.1,a.2,k _ H b S (af.refl _) rfl⟩
  ·cases e
 ·cases e;cases rx;cases f;exact .inr ⟨_,_,rfl,rfl,k _ H b S (af.refl _) rfl⟩
 ·cases e
end
noncomputable def kindAt (io:Bool) (c:Dat):Slot:=if io then .io c else .own c
noncomputable def ownOf:Slot->Option (Bool×Dat)
 | .own c=>some (false,c)
 | .io c=>some (true,c)
 | _=>none
def p7 (h:ownOf s=some (b,c)):s=kindAt b c:=by
 cases s <;> cases h <;> rfl
section
variable {K:W.Frag}{H0:Hp×Hp}{ps:Nat->Option Addr}{Z:DS}{σ:St}{H Hi:Hp}{i:Nat}{io:Bool}{c c':Dat}{p:Addr}
theorem SR.at (S:SR K H0 ps Z σ H Hi) (e:Z[i]? = some (kindAt io c)):∃p,σ[i]? = some (some (.ref p))/\cu K H Hi p c:=by
 cases io with
 | false=>obtain⟨p,a,b,_⟩:=S.own i c e;exact⟨p,a,b⟩
 | true=>obtain⟨p,a,b,_⟩:=S.io i c e;exact⟨p,a,b⟩
def SR.write (S:SR K H0 ps Z σ H Hi)(e:Z[i]? = some (kindAt io c))(ep:σ[i]? = some (some (.ref p)))(v:cu K (upd H p o) Hi p c'):SR K H0 ps (Z.set i (kindAt io c')) σ (upd H p o) Hi:=by
 have x:i < Z.length:=(bc.mp e).1;have y:Z[i]? = some (.own c)\/Z[i]? = some (.io c):=by
  cases io with
  | false=>exact .inl e
  | true=>exact .inr e
 have A:¬fL ps p->H0.1 p=none:=λnl=>by
  cases io with
  | false =>
   obtain⟨q,a,b,m,t⟩:=S.own i c e;rw[ep] at a;cases a;exact t
  | true =>
   obtain⟨q,a,b,m⟩:=S.io i c e;rw[ep] at a;cases a;exact absurd ⟨i,m⟩ nl
 have f:∀{j:Nat}{s:Slot},j≠i->(Z.set i (kindAt io c'))[j]? = some s->Z[j]? = some s:=λ{j s} g h=>by
  rw[iN (Ne.symm g)] at h;exact h
 have same:∀{s:Slot},(Z.set i (kindAt io c'))[i]? = some s->s=kindAt io c':=λ{s} h=>by
  rw[iW x] at h;exact (Option.some.inj h).symm
 have ne:∀{j:Nat}{d:Dat}{q:Addr},j≠i->(Z[j]? = some (.own d)\/Z[j]? = some (.io d))->σ[j]? = some (some (.ref q))->q≠p:=λ{j d q} g h a z=>by
  subst z;exact g (S.ne j i d c q h y a ep)
 refine⟨qI S.sub v.some.2,λb u w n=>?_,λq l=>?_,λj d h=>?_,λj d h=>?_,λj d h=>?_,λj k d d' q B C D E=>?_,by rw[vj];exact S.len,S.nw⟩
 ·have F:b≠p:=λz=>by
   subst z;rw[A n] at w;cases w
  rw[aA F];exact S.keep b u w n
 ·by_cases r:q=p
  ·subst r;rw[bu];simp
  ·rw[aA r];exact S.eF q l
 ·have g:j≠i:=λz=>by
   subst z;have:=same h;cases io <;> cases this
  exact S.dat j d (f g h)
 ·by_cases g:j=i
  ·subst g;have:=same h;cases io with
   | false =>
    cases this;obtain⟨q,a,b,m,t⟩:=S.own j c e;rw[ep] at a;cases a;exact⟨p,ep,v,m,t⟩
   | true=>cases this
  ·obtain⟨q,a,b,m,t⟩:=S.own j d (f g h);have r:=ne g (.inl (f g h)) a;exact⟨q,a,b.keeps (aA r) (af.refl _) b.some.2,m,t⟩
 ·by_cases g:j=i
  ·subst g;have:=same h;cases io with
   | true =>
    cases this;obtain⟨q,a,b,m⟩:=S.io j c e;rw[ep] at a;cases a;exact⟨p,ep,v,m⟩
   | false=>cases this
  ·obtain⟨q,a,b,m⟩:=S.io j d (f g h);have r:=ne g (.inr (f g h)) a;exact⟨q,a,b.keeps (aA r) (af.refl _) b.some.2,m⟩
 ·have back:∀{j:Nat}{d:Dat},((Z.set i (kindAt io c'))[j]? = some (.own d)\/(Z.set i (kindAt io c'))[j]? = some (.io d))->∃d',Z[j]? = some (.own d')\/Z[j]? = some (.io d'):=λ{j d} h=>by
   by_cases g:j=i
   ·subst g;exact⟨c,y⟩
   ·exact⟨d,h.imp (f g) (f g)⟩
  obtain⟨G,I⟩:=back B;obtain⟨J,L⟩:=back C;exact S.ne j k G J q I L D E
end
noncomputable def MD (K:W.Frag) (T:String) (r:V->List V->Hp->VK->Prop) (e:Dat->List Dat->Option (Dat×Dat)):Prop:=∀(H a:Hp) (p:Addr) (c:Dat) (ds:List Dat) (vs:List V) (d b:Dat) (Q:VK),e c ds=some (d,b)->af a H->cu K H a p c->ay K a ds vs ->
 (∀v o,cu K (upd H p o) a p b->Rep K a d v->Q v (upd H p o))->r (.ref p) vs H Q
noncomputable def MV:Dat->Bool
 | .lst _=>true
 | _=>false
noncomputable def gG (i:Nat) (a:Dat->List Dat->Option (Dat×Dat)) (fa:AF):DF:=λZ=>((Z[i]?).bind ownOf).bind λs=>if MV s.2=true then (fa Z).bind λp=>((p.2[i]?).bind ownOf).bind λt=>(a t.2 p.1).map λq=>(q.1,p.2.set i (kindAt t.1 q.2)) else none
section
variable {X:Cx}{pos apos:Pos}
theorem Gj (h:gG i f fa Z=some (d,m)) :
  ∃io c ds Z1 a b e,Z[i]? = some (kindAt io (.lst c))/\fa Z=some (ds,Z1)/\Z1[i]? = some (kindAt a b)/\f b ds=some (d,e)/\m=Z1.set i (kindAt a e):=by
 unfold gG at h;cases n:Z[i]? with
 | none=>rw[n] at h;cases h
 | some s =>
  rw[n] at h;simp only[a5] at h;cases g:ownOf s with
  | none=>rw[g] at h;cases h
  | some t =>
   obtain⟨io,c⟩:=t;rw[g] at h;simp only[a5] at h;split at h
   ·rename_i u;cases o:fa Z with
    | none=>rw[o] at h;cases h
    | some p =>
     obtain⟨ds,Z1⟩:=p;rw[o] at h;simp only[a5] at h;cases j:Z1[i]? with
     | none=>rw[j] at h;cases h
     | some v =>
      rw[j] at h;simp only[a5] at h;cases k:ownOf v with
      | none=>rw[k] at h;cases h
      | some r =>
       obtain⟨a,b⟩:=r;rw[k] at h;simp only[a5] at h;cases l:f b ds with
       | none=>rw[l] at h;cases h
       | some q =>
        obtain⟨d',e⟩:=q;rw[l] at h;cases h;cases c with
        | lst c=>exact⟨io,c,ds,Z1,a,b,e,by rw[p7 g],rfl,by rw[j,p7 k],l,rfl⟩
        | _=>cases u
   ·cases h
def Au (i:Nat)(hN:X.N[i]? = some x)(hv:cc X.env.scope x)(y:∀{t:TA},PA X (e::f) t->PE X (.Call (.Attribute (.Name x l) m apos) (e::f) [] pos) (pC X.K "list" r (xj i) t))(z:MD X.K "list" r n)(A:DA X (e::f) fa):DD X (.Call (.Attribute (.Name x l) m apos) (e::f) [] pos) (gG i n fa):=by
 obtain⟨t,p,q⟩:=A;refine⟨_,y p,λB C Z D H E d Z' Q F S k=>?_⟩
 obtain⟨io,c,ds,Z1,io',G,I,J,L,s,M,rfl⟩:=Gj F;obtain⟨a,h,O⟩:=S.at J;obtain⟨u,P,_,_⟩:=O;refine⟨.ref a,h,.inl ⟨rfl,u,cb.of P⟩,?_⟩;refine q B C Z D H E ds Z1 _ L S λvs R g j T U=>?_
 obtain⟨b,w,W⟩:=j.at s;rw[h] at w;cases w;exact z R g a G ds vs d I Q M j.sub W U λv o o1 Y=>k v _ g (j.write s h o1) T Y
noncomputable def nr:Dat->List Dat->Option (Dat×Dat)
 | .lst xs,[d]=>if xs.length < sizeLine then some (.aK,.lst (xs++[d])) else none
 | _,_=>none
def Hf {K:W.Frag}:MD K "list" y6 nr:=by
 intro H Hi p c ds vs d c' Q e sm b r k;unfold nr at e;split at e
 ·split at e
  ·rename_i f;cases e;obtain⟨g,h,a,i⟩:=b;obtain⟨v,vr,rfl,j,l⟩:=r;cases l;exact⟨p,g,v,rfl,rfl,h,by rw[a.length];exact f,k .aK _ ⟨_,bu,ay.append a ⟨v,[],rfl,j,rfl⟩,i⟩ rfl⟩
  ·cases e
 ·cases e
def G2 (i:Nat)(f:X.N[i]? = some x)(g:cc X.env.scope x)(k:DA X [e] fa)(hd:bJ x:=by decide)(j:cM x:=by decide)(b:attributeBase (.Name x a) "append" X.env (eval (.Name x a) X.env)=eval (.Name x a) X.env:=by rfl)(d:mZ X pos e:=by rfl)(c:(apos.endLine == pos.line)=true:=by rfl)(l:bK X e []:=by rfl):DD X (.Call (.Attribute (.Name x a) "append" apos) [e] [] pos) (gG i nr fa) :=
 Au i f g (λh=>mW Tu WJ PySem.F.type_list_append yz (eC f g hd j) h b d c l rfl) Hf k
end
noncomputable def CD (X:Cx) (r:List V->Hp->VK->Prop) (g:List Dat->Option Res):Prop:=∀(b:Hp×Hp) (c:Nat->Option Addr) (Z:DS) (d:St) (H e:Hp) (vs:List V) (ds:List Dat) (o:Res) (Q:VK),g ds=some o->SR X.K b c Z d H e->ay X.K e ds vs ->
 (∀v f a,SR X.K b c Z d f a->af e a->RR X.K b c Z d f a v o->Q v f)->r vs H Q
section
variable {X:Cx}{pos p:Pos}{x:Str}{id T:String}{r:List V->Hp->VK->Prop}{fo:List Dat->Option Res}{e:Expr}{es:List Expr}{fa:AF}
theorem zY (s:CD X r fo)(q:∀(d:Hp×Hp) (f:Nat->Option Addr) (Z:DS) (b:St) (H g:Hp) (ds:List Dat) (h:DS) (Q:List V->Hp->Prop),fa Z=some (ds,h)->SR X.K d f Z b H g->(∀vs i a,SR X.K d f h b i a->af g a->ay X.K a ds vs->Q vs i)->t b H Q)(d:Hp×Hp)(f:Nat->Option Addr)(Z:DS)(b:St)(H g:Hp)(o:Res)(h:DS)(Q:VK)(c:cJ fo fa Z=some (o,h))(S:SR X.K d f Z b H g)(k:∀v i a,SR X.K d f h b i a->af g a->RR X.K d f h b i a v o->Q v i):uH r t b H Q:=by
 unfold cJ at c;cases j:fa Z with
 | none=>rw[j] at c;cases c
 | some dp =>
  obtain⟨ds,Z1⟩:=dp;rw[j] at c;simp only[a5] at c;cases l:fo ds with
  | none=>rw[l] at c;cases c
  | some r2 =>
   rw[l] at c;cases c;refine q d f Z b H g ds _ _ j S λvs u m w y z=>?_
   exact s d f _ b u m vs ds _ Q l w z λv A n B C D=>k v A n B (y.trans C) D
def kr (c:bO X (.builtin id) r) (d:CD X r fo) (f:Gl X x) (g:X.mg x=none) (h:bootBuiltins x=some (.builtin id)) (i:DA X (e::es) fa) (j:x≠"__name__":=by decide) (a:bJ x:=by decide)
  (k:bK X e es:=by rfl) (b:(backTo pos (starEach es X.env)).any (·.1)=false:=by rfl):DE X (.Call (.Name x p) (e::es) [] pos) (cJ fo fa):=by
 obtain⟨t,l,q⟩:=i;exact⟨_,pQ c f g h l j a k b,zY d q⟩
def rA (c:bO X (.type T) r) (d:CD X r fo) (f:Gl X x) (g:X.mg x=none) (h:bootBuiltins x=some (.type T)) (i:DA X (e::es) fa) (j:x≠"__name__":=by decide) (a:bJ x:=by decide)
  (k:bK X e es:=by rfl) (b:(backTo pos (starEach es X.env)).any (·.1)=false:=by rfl):DE X (.Call (.Name x p) (e::es) [] pos) (cJ fo fa):=by
 obtain⟨t,l,q⟩:=i;exact⟨_,sN c f g h l j a k b,zY d q⟩
noncomputable def OZ:List Dat->Option Res
 | [.int i]=>some (.dat (.int (if i < 0 then -i else i)))
 | _=>none
noncomputable def nP:List Dat->Option Res
 | [.int i]=>some (.dat (.int i))
 | [.bl b]=>some (.dat (.int (if b then 1 else 0)))
 | _=>none
def Mm:CD X (λxs H Q=>(∃i,xs=[.int i]/\Q (.int i) H)\/∃k,xs=[.bl k]/\Q (.int (if k then 1 else 0)) H) nP:=by
 intro H0 ps Z σ H c vs ds o Q e S r k;unfold nP at e;split at e
 ·cases e;obtain⟨v,d,rfl,a,b⟩:=r;cases a;cases b;exact .inl ⟨_,rfl,k _ H c S (af.refl _) rfl⟩
 ·cases e;obtain⟨v,d,rfl,a,b⟩:=r;cases a;cases b;exact .inr ⟨_,rfl,k _ H c S (af.refl _) rfl⟩
 ·cases e
noncomputable def dH:Dat->Option Nat
 | .lst ds=>some ds.length
 | .tup ds=>some ds.length
 | .bN a=>some a.length
 | .dE a=>some a.length
 | .str x=>if x.length<=sizeLine then some x.length else none
 | _=>none
noncomputable def pM:List Dat->Option Res
 | [d]=>(dH d).map λn:Nat=>.dat (.int (n:Int))
 | _=>none
noncomputable def tS (K:W.Frag):List V->Hp->VK->Prop:=λxs H Q=>(∃p ys,xs=[.ref p]/\(cb K H p ys\/bb K H p ys)/\Q (.int ys.length) H)\/(λxs H Q=>(λxs H Q=>(∃z,xs=[.str z]/\z.length<=sizeLine/\Q (.int z.length) H)) xs H Q\/(λxs H Q=>∃a kvs,xs=[.ref a]/\Rd H a (.dK kvs)/\Q (.int kvs.length) H) xs H Q) xs H Q
def Ej:bO X (.builtin "len") (λxs H Q=>∃a kvs,xs=[V.ref a]/\Rd H a (.dK kvs)/\Q (.int kvs.length) H):=by
 intro pins s σ H xs us Q I r h;obtain⟨a,kvs,rfl,b,q⟩:=h;obtain⟨u,rfl,c⟩:=vals1 r;cases c;exact M9 I b λt s' d=>⟨.int kvs.length,H,d,⟨t,rfl⟩,q⟩
def vz:bO X (.builtin "len") (tS X.K):=bO.or Js (bO.or NG Ej)
def xH:CD X (tS X.K) pM:=by
 intro H0 ps Z σ H b vs ds o Q e S r k;unfold pM at e;split at e
 ·rename_i d;obtain⟨v,vr,rfl,c,f⟩:=r;cases f;cases d with
  | lst ds =>
   cases e;obtain⟨p,a,rfl,q,rs⟩:=c;refine .inl ⟨p,a,rfl,.inl (.inl (Rd.mono S.sub q)),k _ H b S (af.refl _) ?_⟩;show V.int _=V.int _;rw[rs.length]
  | tup ds =>
   cases e;obtain⟨p,a,rfl,q,rs⟩:=c;refine .inl ⟨p,a,rfl,.inr (bb.mono S.sub q),k _ H b S (af.refl _) ?_⟩;show V.int _=V.int _;rw[rs.length]
  | str x =>
   cases c;have e:(if x.length<=sizeLine then some x.length else none).map (λn:Nat=>Res.dat (.int n))=some o:=e
   split at e
   ·rename_i g;cases e;exact .inr (.inl ⟨x,rfl,g,k _ H b S (af.refl _) rfl⟩)
   ·cases e
  | bN h =>
   cases e;obtain⟨p,a,rfl,q,rs⟩:=c;refine .inr (.inr ⟨p,a,rfl,Rd.of (S.sub _ _ q),k _ H b S (af.refl _) ?_⟩);show V.int _=V.int _;rw[bH.length rs]
  | dE h =>
   cases e;obtain⟨p,i,a,rfl,q,rs⟩:=c;refine .inr (.inr ⟨p,a,rfl,.inr ⟨i,S.sub _ _ q⟩,k _ H b S (af.refl _) ?_⟩);show V.int _=V.int _;rw[bH.length rs]
  | _=>cases e
 ·cases e
end
noncomputable def pf:Dat->Dat->Option Dat
 | .lst ds,.int i=>eN ds i
 | .tup ds,.int i=>eN ds i
 | .str x,.int i=>if x.length<=sizeLine then (eN x.cps.toList i).map λc=>.str ⟨#[c]⟩ else none
 | _,_=>none
noncomputable def ff:Slot->Option Dat
 | .dat d=>some d
 | .own d=>some d
 | .io d=>some d
 | .no=>none
noncomputable def Top (K:W.Frag) (H a:Hp) (v:V):Dat->Prop
 | .lst ds=>∃p vs,v=.ref p/\Rd H p (.lst vs)/\ay K a ds vs
 | .tup ds=>∃p vs,v=.ref p/\bb K H p vs/\ay K a ds vs
 | .bN b=>∃p kvs,v=.ref p/\H p=some (.dK kvs)/\bH K a b kvs
 | .aY c b=>∃p o kvs,v=.ref p/\H p=some (if c then .ba o (.dT kvs) else .dT kvs)/\bP K a b kvs
 | d=>Rep K a d v
section
variable {K:W.Frag}{H0:Hp×Hp}{ps:Nat->Option Addr}{Z:DS}{σ:St}{H Hi:Hp}{i:Nat}{d:Dat}{v:V}
theorem Rep.top (r:Rep K Hi d v) (s:af Hi H):Top K H Hi v d:=by
 cases d with
 | lst ds=>obtain⟨p,vs,a,b,c⟩:=r;exact⟨p,vs,a,Rd.mono s b,c⟩
 | tup ds=>obtain⟨p,vs,a,b,c⟩:=r;exact⟨p,vs,a,bb.mono s b,c⟩
 | bN ds=>obtain⟨p,vs,a,b,c⟩:=r;exact⟨p,vs,a,s _ _ b,c⟩
 | aY fz ds=>obtain⟨p,o,vs,a,b,c⟩:=r;exact⟨p,o,vs,a,s _ _ b,c⟩
 | _=>exact r
theorem cu.top (h:cu K H Hi p d):Top K H Hi (.ref p) d:=by
 cases d with
 | lst ds=>obtain⟨vs,a,b,_⟩:=h;exact⟨p,vs,rfl,Rd.of a,b⟩
 | bN c=>obtain⟨vs,a,b,_⟩:=h;exact⟨p,vs,rfl,a,b⟩
 | aY fz c=>obtain⟨rfl,vs,a,b,_⟩:=h;exact⟨p,{ cls:=.none,data:=.fields #[] },vs,rfl,a,b⟩
 | _=>exact h.elim
theorem SR.peek (S:SR K H0 ps Z σ H Hi) (e:(Z[i]?).bind ff=some d):∃v,σ[i]? = some (some v)/\Top K H Hi v d:=by
 cases c:Z[i]? with
 | none=>rw[c] at e;cases e
 | some s =>
  rw[c] at e;cases s with
  | no=>cases e
  | dat d'=>cases e;obtain⟨v,a,b⟩:=S.dat i d c;exact⟨v,a,b.top S.sub⟩
  | own d'=>cases e;obtain⟨p,a,b,_⟩:=S.own i d c;exact⟨_,a,b.top⟩
  | io d'=>cases e;obtain⟨p,a,b,_⟩:=S.io i d c;exact⟨_,a,b.top⟩
theorem CJ (r:ay K Hi ds vs)(e:eN ds k=some d):∃v,eN vs k=some v/\Rep K Hi d v:=by
 unfold eN at e ⊢;rw[r.length];cases q:fG ds.length k with
 | none=>rw[q] at e;cases e
 | some j =>
  rw[q] at e;exact r.get e
def Bw (t:Top K H Hi x a)(g:Rep K Hi b y)(e:pf a b=some d)(k:∀v,Rep K Hi d v->Q v H):Ca K x y H Q:=by
 unfold pf at e;split at e
 ·obtain⟨p,vs,rfl,h,rs⟩:=t;cases g;obtain⟨v,f,j⟩:=CJ rs e;exact .inl ⟨p,vs,_,v,rfl,rfl,.inl h,f,k v j⟩
 ·obtain⟨p,vs,rfl,h,rs⟩:=t;cases g;obtain⟨v,f,j⟩:=CJ rs e;exact .inr (.inl ⟨p,vs,_,v,rfl,rfl,h,f,k v j⟩)
 ·split at e
  ·rename_i l;cases t;cases g;rename_i m n;cases f:eN m.cps.toList n with
   | none=>rw[f] at e;cases e
   | some c =>
    rw[f] at e;cases e;exact .inr (.inr ⟨_,_,c,rfl,rfl,l,f,k _ rfl⟩)
  ·cases e
 ·cases e
end
noncomputable def mQ (i:Nat):DF:=λZ=>((Z[i]?).bind ff).bind λc=>(dH c).map λn:Nat=>(.int (n:Int),Z)
section
variable {X:Cx}{pos:Pos}{a b:Expr}
theorem L' (i:Nat)(r:X.N[i]? = some x)(s:cc X.env.scope x)(u:Gl X "len")(w:X.mg "len"=none)(hd:bJ x:=by decide)(l:cM x:=by decide) :
  DD X (.Call (.Name "len" q) [.Name x o] [] pos) (mQ i):=by
 refine⟨_,pQ vz u w U7 (jB (eC r s hd l) nD rfl),λH0 ps Z σ H y d Z' Q e S k=>?_⟩
 unfold mQ at e;cases j:(Z[i]?).bind ff with
 | none=>rw[j] at e;cases e
 | some c =>
  rw[j] at e;simp only[a5] at e;cases f:dH c with
  | none=>rw[f] at e;cases e
  | some n =>
   rw[f] at e;cases e;obtain⟨v,a,t⟩:=S.peek j;refine⟨v,a,?_⟩;have g:∀m:Nat,m=n->Q (.int (m:Int)) H:=λm em=>k _ H y S (af.refl _) (by rw[em];rfl)
   cases c with
   | lst ds =>
    obtain⟨p,vs,rfl,h,rs⟩:=t;cases f;exact .inl ⟨p,vs,rfl,.inl (.inl h),g _ rs.length⟩
   | tup ds =>
    obtain⟨p,vs,rfl,h,rs⟩:=t;cases f;exact .inl ⟨p,vs,rfl,.inr h,g _ rs.length⟩
   | bN A =>
    obtain⟨p,vs,rfl,h,rs⟩:=t;cases f;exact .inr (.inr ⟨p,vs,rfl,Rd.of h,g _ (bH.length rs)⟩)
   | dE A =>
    obtain⟨p,B,vs,rfl,h,rs⟩:=t;cases f;exact .inr (.inr ⟨p,vs,rfl,.inr ⟨B,S.sub _ _ h⟩,g _ (bH.length rs)⟩)
   | str z =>
    cases t;have f:(if z.length<=sizeLine then some z.length else none)=some n:=f
    split at f
    ·rename_i C;cases f;exact .inr (.inl ⟨z,rfl,C,g _ rfl⟩)
    ·cases f
   | _=>cases f
noncomputable def oW (i:Nat) (c f:DF):SF:=λZ=>(f Z).bind λp=>((p.2[i]?).bind ownOf).bind λ_=>(c p.2).bind λq=>match q.1 with
 | .int k=>((q.2[i]?).bind ownOf).bind λs=>(match s.2 with
  | .lst xs=>(fG xs.length k).map λj=>.next (q.2.set i (kindAt s.1 (.lst (xs.set j p.1))))
  | _=>none)
 | _=>none
theorem Kr (i:Nat)(hN:X.N[i]? = some x)(hv:cc X.env.scope x)(h:DD X e f)(hk:DD X g A)(hd:bJ x:=by decide)(M:cM x:=by decide)(ha:∀v,assign (.Subscript (.Name x l) g pt) X.env v=(do
   let m <- holding [v] (eval (.Name x l) X.env)
   let B <- holding [v,m] (eval g X.env)
   standAt pt
   holding [v,m,B] (setItem m B v)
   release [v,m,B] []):=by intro _;rfl)(hs:swapsWithSole [.Subscript (.Name x l) g pt] e pos.line X.env=pure false:=by rfl)(hw:swappedStores [.Subscript (.Name x l) g pt] e X.env=pure none:=by rfl)(C:(assignEach [.Subscript (.Name x l) g pt] X.env).map (·.2)=[assign (.Subscript (.Name x l) g pt) X.env]:=by rfl):cp X (.Assign [.Subscript (.Name x l) g pt] e pos) (oW i A f):=by
 obtain⟨t,p,q⟩:=h;obtain⟨tk,pk,qk⟩:=hk;refine⟨_,Bu p (Oc (eC hN hv hd M) pk set_list ha) hs hw C,λO P Z E H Hi o D e S k=>?_⟩
 unfold oW at e;cases F:f Z with
 | none=>simp only[F] at e;cases e
 | some dp =>
  obtain⟨d,Z1⟩:=dp;simp only[F] at e;simp only[a5] at e;cases G:(Z1[i]?).bind ownOf with
  | none=>rw[G] at e;cases e
  | some s0 =>
   rw[G] at e;simp only[a5] at e;cases I:A Z1 with
   | none=>rw[I] at e;cases e
   | some kp =>
    obtain⟨n,Z2⟩:=kp;rw[I] at e;simp only[a5] at e;split at e
    ·rename_i Q;cases r:(Z2[i]?).bind ownOf with
     | none=>rw[r] at e;cases e
     | some u =>
      obtain⟨io,c⟩:=u;rw[r] at e;simp only[a5] at e;cases c with
      | lst xs =>
       simp only at e;cases J:fG xs.length Q with
       | none=>rw[J] at e;cases e
       | some j =>
        rw[J] at e;cases e;have K:∀{w:DS}{b:Bool}{c:Dat},(w[i]?).bind ownOf=some (b,c)->w[i]? = some (kindAt b c):=λ{w b c} h=>by
         cases z:w[i]? with
         | none=>rw[z] at h;cases h
         | some s=>rw[z] at h;rw[p7 h]
        refine q O P Z E H Hi d Z1 _ F S λv H1 R T s1 r1=>?_
        obtain⟨a,L,_⟩:=T.at (K G);refine⟨.ref a,L,qk O P Z1 E H1 R _ Z2 _ I T λy H2 U V u r2=>?_⟩
        cases r2;obtain⟨b,W,ob⟩:=V.at (K r);rw[L] at W;cases W;obtain⟨vs,C,Y,h3⟩:=ob;refine⟨a,vs,Q,j,rfl,rfl,C,by rw[Y.length];exact J,?_⟩
        exact k E _ U (V.write (K r) L ⟨_,bu,ay.set j Y (Rep.mono u r1),h3⟩) (s1.trans u)
      | _=>cases e
    ·cases e
end
structure j0 (X:Cx) (es:List Expr) (j i:Nat) (f:AF):Prop where
 ex:∃t,PA X es t/\∀(H0:Hp×Hp) (ps:Nat->Option Addr) (Z:DS) (σ:St) (H Hi:Hp) (ds:List Dat) (Z':DS) (w:V) (Q:List V->Hp->Prop),f Z=some (ds,Z')->SR X.K H0 ps Z σ H Hi->σ[i]? = some (some w) ->
 (∀vs H' Hi',SR X.K H0 ps Z' σ H' Hi'->af Hi Hi'->vs[j]? = some w->ay X.K Hi' ds (vs.eraseIdx j)->Q vs H')->t σ H Q
section
variable {X:Cx}{pos:Pos}
def Gd (i:Nat)(f:X.N[i]? = some x)(j:cc X.env.scope x)(h:DA X a g)(l:starEach (.Name x b::a) X.env=(false,eval (.Name x b) X.env)::starEach a X.env:=by rfl)(hd:bJ x:=by decide)(c:cM x:=by decide):j0 X (.Name x b::a) 0 i g:=by
 obtain⟨t,p,q⟩:=h;refine⟨_,jB (eC f j hd c) p l,λm n Z o H s ds u w Q e S v k=>⟨w,v,?_⟩⟩
 exact q m n Z o H s ds u _ e S λvs y d z s' r=>k (w::vs) y d z s' rfl r
theorem JU (r:DD X e f)(s:j0 X a j i g)(t:bK X e a:=by rfl):j0 X (e::a) (j + 1) i (dA f g):=by
 obtain⟨t1,u,x⟩:=r;obtain⟨t2,y,z⟩:=s;refine⟨_,jB u y t,λh l Z m H A ds Z' w Q e S B k=>?_⟩
 unfold dA at e;cases b:f Z with
 | none=>rw[b] at e;cases e
 | some dp =>
  obtain⟨d,Z1⟩:=dp;rw[b] at e;simp only[a5] at e;cases c:g Z1 with
  | none=>rw[c] at e;cases e
  | some C =>
   obtain⟨n,Z2⟩:=C;rw[c] at e;cases e;refine x h l Z m H A d Z1 _ b S λv D o E F G=>?_
   exact z h l Z1 m D o n _ w _ c E B λvs I p J q K L=>k (v::vs) I p J (F.trans q) (by simpa using K) ⟨v,vs.eraseIdx j,rfl,Rep.mono q G,L⟩
end
theorem SR.xo {K:W.Frag}{m:Hp×Hp}{n:Nat->Option Addr}{Z:DS}{k:St}{H y f a:Hp}{v:V}{r:Res}{i:Nat}{io:Bool}{c t:Dat}{p:Addr}(S:SR K m n Z k H y) (e:Z[i]? = some (kindAt io c)) (ep:k[i]? = some (some (.ref p)))
  (s:∀b o,H b=some o->b≠p->f b=some o) (O:af y a) (P:af a f) (nw:∀p o,a p=some o->iC y H p o) (D:cu K f a p t) (u:RC K H f a v r) :
  SR K m n (Z.set i (kindAt io t)) k f a/\RR K m n (Z.set i (kindAt io t)) k f a v r:=by
 obtain⟨q,eq,Q⟩:=S.at e;rw[ep] at eq;cases eq;obtain⟨⟨l,A⟩,hn⟩:=Q.some;obtain⟨⟨x,E⟩,F⟩:=D.some;have R:af H (upd f p l):=λb o B=>by
  by_cases z:b=p
  ·subst z;rw[bu];rw[A] at B;exact B
  ·rw[aA z];exact s b o B z
 have G:af a (upd f p l):=qI P F;have I:RC K H (upd f p l) a v r:=by
  cases r with
  | dat d=>exact u
  | own c0 =>
   obtain⟨p0,C,w,g⟩:=u;have J:p0≠p:=λz=>by
    subst z;rw[A] at g;cases g
   exact⟨p0,C,w.keeps (aA J) (af.refl _) w.some.2,g⟩
 obtain⟨T,rr⟩:=S.after R O G nw I;have L:upd (upd f p l) p x=f:=by
  rw[GV];funext b
  by_cases z:b=p
  ·subst z;rw[bu,E]
  ·rw[aA z]
 have M:SR K m n (Z.set i (kindAt io t)) k (upd (upd f p l) p x) a:=T.write e ep (by rw[L];exact D)
 simp only[L] at M;refine⟨M,?_⟩;cases r with
 | dat d=>exact u
 | own c0 =>
  obtain⟨p0,C,w,g⟩:=u;refine⟨p0,C,w,(S.bM g).2,(S.bM g).1,λj d h z=>?_⟩
  have hlt:i < Z.length:=(bc.mp e).1
  by_cases N:j=i
  ·subst N;rw[ep] at z;cases z;rw[A] at g;cases g
  ·rw[iN (Ne.symm N)] at h;exact S.d6 g j d h z
noncomputable def l3 (fn:dM) (i:Nat) (fa:AF):EF:=λZ=>((Z[i]?).bind ownOf).bind λ_=>(fa Z).bind λp=>((p.2[i]?).bind ownOf).bind λs=>(fn s.2 p.1).map λq=>(q.1,p.2.set i (kindAt s.1 q.2))
theorem jF {Z:DS}{i:Nat}{b:Bool}{c:Dat}(h:(Z[i]?).bind ownOf=some (b,c)):Z[i]? = some (kindAt b c):=by
 cases z:Z[i]? with
 | none=>rw[z] at h;cases h
 | some s=>rw[z] at h;rw[p7 h]
section
variable {X:Cx}{pos:Pos}
theorem Ni (h:vY X x (cV X.K j fn))(E:j0 X (e::g) j i fa)(y:bJ x:=by decide)(G:bK X e g:=by rfl)(z:(backTo pos (starEach g X.env)).any (·.1)=false:=by rfl):DE X (.Call (.Name x p) (e::g) [] pos) (l3 fn i fa):=by
 obtain⟨I,CX,k,f,fd,pn,F,J,L,M,N,hx⟩:=h;obtain⟨t,O,q⟩:=E;refine⟨_,x9 F J I L M N .nil hx O y G z,λP R Z T H U r Z' Q d S k=>?_⟩
 unfold l3 at d;cases m:(Z[i]?).bind ownOf with
 | none=>simp only[m] at d;cases d
 | some V =>
  obtain⟨b0,c0⟩:=V;rw[m] at d;simp only[a5] at d;cases n:fa Z with
  | none=>rw[n] at d;cases d
  | some dp =>
   obtain⟨ds,Z1⟩:=dp;rw[n] at d;simp only[a5] at d;cases l:(Z1[i]?).bind ownOf with
   | none=>rw[l] at d;cases d
   | some o =>
    obtain⟨io,c⟩:=o;rw[l] at d;simp only[a5] at d;cases s:fn c ds with
    | none=>rw[s] at d;cases d
    | some rq =>
     obtain⟨r',W⟩:=rq;rw[s] at d;cases d;obtain⟨a,u,_⟩:=S.at (jF m);refine q P R Z T H U ds Z1 _ _ n S u λvs H1 A w o Y r1=>?_
     obtain⟨b,B,ob⟩:=w.at (jF l);rw[u] at B;cases B;refine⟨A,a,c,ds,_,W,w.sub,by rw[xr];exact Y,ob,by rw[xr];exact r1,s,λv H2 C a1 D a3 a4 oc rc=>?_⟩
     obtain⟨S2,rr⟩:=w.xo (jF l) u a1 D a3 a4 oc rc;exact k v H2 C S2 (o.trans D) rr
end
noncomputable def gB (n j:Nat) (c:Dat) (ds:List Dat):DS:=(ds.map Slot.dat).take j++.io c::(ds.map Slot.dat).drop j++U' (n - ds.length - 1) .no
noncomputable def lN (n j:Nat) (f:SF):dM:=λc ds=>(f (gB n j c ds)).bind λo=>match o with
 | .next Z=>(match Z[j]? with | some (.io a)=>some (.dat .aK,a) | _=>none)
 | .ret r Z=>(match Z[j]? with | some (.io a)=>some (r,a) | _=>none)
 | _=>none
def uA (hj:j<=ds.length)(h:(gB n j c ds)[k]? = some s) :
  (k < j/\∃d,ds[k]? = some d/\s=.dat d)\/(k=j/\s=.io c)\/(j < k/\∃d,ds[k - 1]? = some d/\s=.dat d)\/s=.no:=by
 unfold gB at h;have a:((ds.map Slot.dat).take j).length=j:=by rw[gg,a8];lia
 by_cases b:k < j
 ·rw[mu,hH (by simp only[a];exact b),Wl b,cn] at h
  cases e:ds[k]? with
  | none=>rw[e] at h;cases h
  | some d=>rw[e] at h;cases h;exact .inl ⟨b,d,rfl,rfl⟩
 ·rw[mu,hO (by rw[a];lia),a] at h
  by_cases f:k=j
  ·subst f;rw[YQ] at h;cases h;exact .inr (.inl ⟨rfl,rfl⟩)
  ·have g:j < k:=by lia
   obtain⟨m,i⟩:∃m,k - j=m + 1:=⟨k - j - 1,by lia⟩
   simp only[i,List.cons_append,Wr] at h
   by_cases l:m < ((ds.map Slot.dat).drop j).length
   ·rw[hH l,Vq,cn] at h;have o:j + m=k - 1:=by lia
    rw[o] at h;cases e:ds[k - 1]? with
    | none=>rw[e] at h;cases h
    | some d=>rw[e] at h;cases h;exact .inr (.inr (.inl ⟨g,d,rfl,rfl⟩))
   ·rw[hO (by lia),UJ] at h
    split at h
    ·cases h;exact .inr (.inr (.inr rfl))
    ·cases h
def G0 {K:W.Frag}{N:List Str}{vs:List V}{ds:List Dat}{H i:Hp}{j:Nat}{p:Addr}{c:Dat}(s:af i H) (hl:vs.length<=N.length) (u:vs[j]? = some (.ref p)) (w:cu K H i p c) (r:ay K i ds (vs.eraseIdx j)) :
  SR K (H,i) (λk=>if k=j then some p else none) (gB N.length j c ds) (L2.start N vs) H i:=by
 have y:j < vs.length:=(bc.mp u).1;have hd:=r.length;rw[Wa y] at hd;have m:j<=ds.length:=by omega
 have st:∀{k:Nat}{v:V},vs[k]? = some v->(L2.start N vs)[k]? = some (some v):=λ{k v} e=>by
  unfold L2.start;rw[hH (by simpa using (bc.mp e).1),cn,e]
  rfl
 have f:∀{k:Nat}{d:Dat},(gB N.length j c ds)[k]?≠some (.own d):=λ{k d} h=>by
  rcases uA m h with⟨_,_,_,e⟩ | ⟨_,e⟩ | ⟨_,_,_,e⟩ | e <;> cases e
 have n:∀{k:Nat}{d:Dat},(gB N.length j c ds)[k]? = some (.io d)->k=j/\d=c:=λ{k d} h=>by
  rcases uA m h with⟨_,_,_,e⟩ | ⟨a,e⟩ | ⟨_,_,_,e⟩ | e
  ·cases e
  ·cases e;exact⟨a,rfl⟩
  ·cases e
  ·cases e
 refine⟨s,λb o e _=>e,λq l=>?_,λk d e=>?_,λk d e=>absurd e f,λk d e=>?_,λk A d d' q B C z1 z2=>?_,?_,λq o e=>.inl e⟩
 ·obtain⟨k,z⟩:=l;dsimp only at z;split at z
  ·cases z;obtain⟨⟨o,e⟩,_⟩:=w.some;rw[e];simp
  ·cases z
 ·rcases uA m e with⟨x,d',t,g⟩ | ⟨_,g⟩ | ⟨x,d',t,g⟩ | g
  ·cases g;obtain⟨v,a,b⟩:=r.get t;rw[List.getElem?_eraseIdx_of_lt x] at a;exact⟨v,st a,b⟩
  ·cases g
  ·cases g;obtain⟨v,a,b⟩:=r.get t;rw[List.getElem?_eraseIdx_of_ge (by omega)] at a
   have:k - 1 + 1=k:=by lia
   rw[this] at a;exact⟨v,st a,b⟩
  ·cases g
 ·obtain⟨rfl,rfl⟩:=n e;exact⟨p,st u,w,by simp⟩
 ·have D:k=j:=by
   rcases B with h | h
   ·exact absurd h f
   ·exact (n h).1
  have E:A=j:=by
   rcases C with h | h
   ·exact absurd h f
   ·exact (n h).1
  simp only[D,E]
 ·unfold gB L2.start;simp only[eJ,fk,a8,U3,gg,j1]
  lia
section
variable {P:Program}{w:World}{K:W.Frag}{mg:Str->Option Value}{base:Heap}
def Be {x u:Str}{st:Stmt}{f:Addr}{fd:FuncData}{N I:List Str}{k j:Nat}{fn:dM}{fb:SF}(F:L2.bA K x u st f fd) (S:bD N I (aS st)) (O:∀c ds r,fn c ds=some r->ds.length + 1=I.length)
  (R:∀(y:Value) (A:Around) (outer:List Env) (s:Shared) (H:Hp) (E:XK),cN k (A.deeper (envOfC u (aS st) s.heap.objs.size f y))->gm (iJ aX P w K mg base N u (aS st) f y A outer s H E).jN (iO st) fb)
  (hf:∀c ds r,fn c ds=some r->lN N.length j fb c ds=some r):aV P w K mg base aX (k + 1) f fd I (cV K j fn):=by
 have L:∀{vs:List V}{H m:Hp}{p:Addr}{c:Dat}{ds:List Dat}{r:Res×Dat},vs[j]? = some (V.ref p)->ay K m ds (vs.eraseIdx j)->fn c ds=some r->vs.length=I.length:=λ{vs H m p c ds r} D rs e=>by
  have hj:=(bc.mp D).1;have:=rs.length;rw[Wa hj] at this;have:=O c ds r e
  lia
 have hpl:I.length<=N.length:=by have:=congrArg List.length S.pre;rw[gg] at this;lia
 refine F.ok S (λvs H Q E h=>?_) (λy A outer s H vs Q E hr h=>?_)
 ·obtain⟨m,p,c,ds,r,c',sm,D,oc,rs,e,_⟩:=h;exact L (H:=H) D rs e
 ·obtain⟨m,p,c,ds,r,c',sm,D,oc,rs,e,kk⟩:=h;obtain⟨t,pp,q⟩:=R y A outer s H E hr;refine⟨t,pp,?_⟩;have g:=hf c ds (r,c') e;unfold lN at g;have hv:=L (H:=H) D rs e;cases T:fb (gB N.length j c ds) with
  | none=>rw[T] at g;cases g
  | some o =>
   rw[T] at g;dsimp only[a5] at g;have M:∀{Z:DS}{B:St}{n i:Hp}{G:Dat},SR K (H,m) (λk=>if k=j then some p else none) Z B n i->Z[j]? = some (.io G) ->
     (∀b o,H b=some o->b≠p->n b=some o)/\(∀p o,i p=some o->iC m H p o)/\cu K n i p G:=λ{Z B n i G} l J=>by
    refine⟨λb o eb R=>l.keep b o eb λ⟨k,z⟩=>?_,λp o e=>l.nw p o e,?_⟩
    ·dsimp only at z;split at z
     ·cases z;exact R rfl
     ·cases z
    ·obtain⟨p',a,b,U⟩:=l.io j G J
     (try dsimp only at U)
     rw[if_pos rfl] at U;cases U;exact b
   refine q (H,m) _ (gB N.length j c ds) (L2.start N vs) H m o _ T (G0 sm (by omega) D oc rs) ?_
   cases o with
   | next Z =>
    refine λB n i l s'=>?_
    simp only at g;split at g
    ·rename_i G J;cases g;obtain⟨W,X,Y⟩:=M l J;exact kk .aK n i W s' l.sub X Y rfl
    ·cases g
   | ret r' Z =>
    refine λv B n i l s' rr=>?_
    simp only at g;split at g
    ·rename_i G J;cases g;obtain⟨W,X,Y⟩:=M l J;refine kk v n i W s' l.sub X Y ?_;cases r with
     | dat d=>exact rr
     | own c0 =>
      obtain⟨p0,e',o,np,n0,_⟩:=rr;exact⟨p0,e',o,n0⟩
    ·cases g
   | brk Z=>cases g
   | cont Z=>cases g
   | exc C Z=>cases g
end
end DV
end
section
namespace L2
open PySem PySem.Spec PyProof.Rows
section
variable {X:Cx}
def Fv:aI X (Tg .Mult) (rI IntMulOk λi j=>.int (i * j)):=rH λ_ _ _ _ _ _ _ a q=>mul_int q a
end
end L2
namespace DV
open PySem PySem.Spec PyProof.Rows L2
def dJ {N:List eT}{x:eT}{i:Nat}(h:N.findIdx? (· == x)=some i):N[i]? = some x:=by
 obtain⟨a,hx,_⟩:=k9.mp h;rw[cm a];exact congrArg some (by simpa using hx)
noncomputable def dU (i j:Int):Bool:=!(decide (pB i > Vh) && decide (pB j > Vh) && Zd (pB i + pB j))
noncomputable def nN (_ j:Int):Bool:=decide (0 < j) && decide (j.natAbs.log2 < 9000)
noncomputable def rY (i j:Int):Bool:=decide (0<=j) && decide (j<=1000000) && decide (i.natAbs < 2 ^ 64)
section
variable {X:Cx}{a b:gs}{pos:qe}{f g:DF}
def F3 (c:DD X a f) (d:DD X b g):DE X (.BinOp a .Add b pos) (cg lC f g):=kK FX FH c d
def MY (c:DD X a f) (d:DD X b g):DE X (.BinOp a .Sub b pos) (cg (dX (λ_ _=>true) λi j=>.int (i - j)) f g):=kK LG (nK λ_ _ _ _=>rfl) c d
def Ol (c:DD X a f) (d:DD X b g):DE X (.BinOp a .Mult b pos) (cg (dX dU λi j=>.int (i * j)) f g) :=
 kK Fv (qF (λi j h=>by unfold dU at h;unfold IntMulOk;intro z;rw[z] at h;cases h) λ_ _ _ _=>rfl) c d
def LS (c:DD X a f) (d:DD X b g):DE X (.BinOp a .FloorDiv b pos) (cg (dX nN λi j=>.int (i / j)) f g) :=
 kK KO (qF (λi j h=>by unfold nN at h;rw[dV] at h;exact⟨of_decide_eq_true h.1,of_decide_eq_true h.2⟩) λ_ _ _ _=>rfl) c d
def Mq (c:DD X a f) (d:DD X b g):DE X (.BinOp a .Mod b pos) (cg (dX (λ_ j=>decide (0 < j)) λi j=>.int (i % j)) f g) :=
 kK Dg (qF (λi j h=>of_decide_eq_true h) λ_ _ _ _=>rfl) c d
def J7 (c:DD X a f) (d:DD X b g):DE X (.BinOp a .Pow b pos) (cg (dX rY λi j=>.int (i ^ j.toNat)) f g) :=
 kK OV (qF (λi j h=>by unfold rY at h;rw[dV,dV] at h;exact⟨of_decide_eq_true h.1.1,of_decide_eq_true h.1.2,of_decide_eq_true h.2⟩) λ_ _ _ _=>rfl) c d
def DN (c:X.A.units + 64 < vi) (d:DD X a f) (e:DD X b g):DT X (.Compare a [.Eq] [b] pos) (eI (cg (dP false) f g)):=km (Cy c) rL d e (jd _)
def Kh (c:X.A.units + 64 < vi) (d:DD X a f) (e:DD X b g):DT X (.Compare a [.NotEq] [b] pos) (eI (cg (dP true) f g)):=km (B1 c) rL d e (jd _)
def IL (c:DD X a f) (d:DD X b g):DT X (.Compare a [.Lt] [b] pos) (eI (cg (dX (λ_ _=>true) λi j=>.bl (decide (i < j))) f g)):=km w4 (nK λ_ _ _ _=>rfl) c d (jd _)
def DH (c:DD X a f) (d:DD X b g):DT X (.Compare a [.Gt] [b] pos) (eI (cg (dX (λ_ _=>true) λi j=>.bl (decide (j < i))) f g)):=km CN (nK λ_ _ _ _=>rfl) c d (jd _)
def OE (c:DD X a f) (d:DD X b g):DT X (.Compare a [.GtE] [b] pos) (eI (cg (dX (λ_ _=>true) λi j=>.bl (decide (j<=i))) f g)):=km EN (nK λ_ _ _ _=>rfl) c d (jd _)
def OH (d:X.N.findIdx? (· == x)=some i)(e:cc X.env.scope x)(hd:bJ x)(c:cM x):DD X (.Name x pos) (dF i):=DR i (dJ d) e hd c
def FN (d:X.N.findIdx? (· == x)=some i)(e:cc X.env.scope x)(hd:bJ x)(c:cM x):DE X (.Name x pos) (wL i):=HZ i (dJ d) e hd c
def wG {x:eT}{e:gs}{f:EF}{c:qe}{i:Nat}(d:X.N.Nodup) (j:X.N.findIdx? (· == x)=some i) (hx:Loc X.env.scope x) (k:X.fn x=true\/X.env.scope.names.lookup x=some .local)
  (l:r0 e (some (.Name x c)) pos.line X.env=pure false) (h:DE X e f):cp X (.Assign [.Name x c] e pos) (fW i f):=Ib i d (dJ j) hx k h l
def G9 (n:X.N.findIdx? (· == x)=some i)(o:cc X.env.scope x)(hd:bJ x)(m:cM x)(p:∀v,T8 (.Subscript (.Name x d) c pt) X.env v=(do
   let j <- Ub [v] (eval (.Name x d) X.env)
   let k <- Ub [v,j] (eval c X.env)
   Xn pt
   Ub [v,j,k] (Yt j k v)
   release [v,j,k] []))(q:VL [.Subscript (.Name x d) c pt] e pos.line X.env=pure false)(hw:VM [.Subscript (.Name x d) c pt] e X.env=pure none)(r:(nS [.Subscript (.Name x d) c pt] X.env).map (·.2)=[T8 (.Subscript (.Name x d) c pt) X.env])(h:DD X e f)(s:DD X c l):cp X (.Assign [.Subscript (.Name x d) c pt] e pos) (oW i l f):=Kr i (dJ n) o h s hd m p q hw r
end
noncomputable abbrev OF:=DS->Option (Option Int×DS)
structure DO (X:Cx) (e:Option gs) (f:OF):Prop where
 ex:∃t,PO X e t/\∀(H0:Hp×Hp) (ps:Nat->Option cW) (Z:DS) (σ:St) (H Hi:Hp) (o:Option Int) (Z':DS) (Q:Option Int->Hp->Prop),f Z=some (o,Z')->SR X.K H0 ps Z σ H Hi->(∀H' Hi',SR X.K H0 ps Z' σ H' Hi'->af Hi Hi'->Q o H')->t σ H Q
noncomputable def ni:OF:=λZ=>some (none,Z)
noncomputable def kg (f:DF):OF:=λZ=>(f Z).bind λp=>match p.1 with
 | .int i=>some (some i,p.2)
 | _=>none
noncomputable def cutD (xs:List a)(lo b:Option Int):List a:=(xs.drop (HT.aO xs.length 0 lo)).take (HT.aO xs.length xs.length b - HT.aO xs.length 0 lo)
noncomputable def eV:Dat->Option Int->Option Int->Option Res
 | .lst ds,lo,a=>some (.own (.lst (cutD ds lo a)))
 | .cU b,lo,a=>some (.own (.lst ((cutD b lo a).map Dat.int)))
 | .tup ds,lo,a=>if HT.aO ds.length 0 lo=0/\HT.aO ds.length ds.length a=ds.length then none else some (.dat (.tup (cutD ds lo a)))
 | _,_,_=>none
noncomputable def jr (f:DF) (l h:OF):EF:=λZ=>(f Z).bind λp=>(l p.2).bind λq=>(h q.2).bind λr=>(eV p.1 q.1 r.1).map λo=>(o,r.2)
def NC (a) (lo b):iq (a.map V.int) lo b=(cutD a lo b).map V.int:=by
 unfold iq cutD;rw[a8,Hz,H9]
theorem ay.take {K:gj}{H:Hp}:∀{ds:List Dat}{vs:List V}(n:Nat),ay K H ds vs->ay K H (ds.take n) (vs.take n)
 | [],_,n,h=>by simp only[show _=[] from h,Wj,Wj];exact rfl
 | _::_,_,0,⟨v,r,e,q,t⟩=>by rw[e];exact rfl
 | _::_,_,n + 1,⟨v,r,e,q,t⟩=>⟨v,r.take n,by rw[e];rfl,q,ay.take n t⟩
theorem ay.drop {K:gj}{H:Hp}:∀{ds:List Dat}{vs:List V}(n:Nat),ay K H ds vs->ay K H (ds.drop n) (vs.drop n)
 | [],_,n,h=>by simp only[show _=[] from h,Ym,Ym];exact rfl
 | _::_,_,0,h=>h
 | _::_,_,n + 1,⟨v,r,e,q,t⟩=>by rw[e];exact ay.drop n t
def ay.cut {K:gj}{H:Hp}{ds:List Dat}{vs:List V}(lo a:Option Int) (r:ay K H ds vs):ay K H (cutD ds lo a) (iq vs lo a):=by
 unfold cutD iq;rw[r.length];exact ay.take _ (ay.drop _ r)
section
variable {X:Cx}{pos p2:qe}{e:gs}
def Ke:DO X none ni:=⟨_,MT,λH0 ps Z σ H a o Z' Q e S k=>by cases e;exact k H a S (af.refl _)⟩
theorem Np (h:DD X e f):DO X (some e) (kg f):=by
 obtain⟨t,p,q⟩:=h;refine⟨_,OW p,λc g Z i H j o Z' Q e S k=>?_⟩
 unfold kg at e;cases a:f Z with
 | none=>rw[a] at e;cases e
 | some dp =>
  obtain⟨d,Z1⟩:=dp;rw[a] at e;simp only[a5] at e;split at e
  ·cases e;exact q c g Z i H j _ _ _ a S λv l b m s' r=>⟨_,r,k l b m s'⟩
  ·cases e
theorem Kt {f:DF}{l h:OF}{lo E:Option gs}(J:DD X e f) (K:DO X lo l) (hh:DO X E h):DE X (.Subscript e (.Slice lo E none p2) pos) (jr f l h):=by
 obtain⟨t,p,q⟩:=J;obtain⟨tl,L,M⟩:=K;obtain⟨th,N,O⟩:=hh;refine⟨_,M3 (jR.or IS Mw) p L N,λu w Z x H P o Z' Q c S k=>?_⟩
 unfold jr at c;cases y:f Z with
 | none=>rw[y] at c;cases c
 | some dp =>
  obtain⟨d,Z1⟩:=dp;rw[y] at c;simp only[a5] at c;cases A:l Z1 with
  | none=>rw[A] at c;cases c
  | some R =>
   obtain⟨a,Z2⟩:=R;rw[A] at c;simp only[a5] at c;cases B:h Z2 with
   | none=>rw[B] at c;cases c
   | some T =>
    obtain⟨b,Z3⟩:=T;rw[B] at c;simp only[a5] at c;cases j:eV d a b with
    | none=>rw[j] at c;cases c
    | some o' =>
     rw[j] at c;cases c;refine q u w Z x H P d Z1 _ y S λv U F V C W=>?_
     refine M u w Z1 x U F a Z2 _ A V λY G S2 n=>?_
     refine O u w Z2 x Y G b _ _ B S2 λH3 s g r=>?_
     have D:=Rep.mono (n.trans r) W;cases d with
     | lst ds =>
      cases j;obtain⟨p,vs,rfl,m,rs⟩:=D;refine .inl ⟨p,vs,rfl,.inl (Rd.mono g.sub m),λz i=>?_⟩
      exact k (.ref z) _ s (g.made i) ((C.trans n).trans r) ⟨z,rfl,⟨_,bu,ay.cut a b rs,g.dy i⟩,(g.bM i).2,(g.bM i).1,g.d6 i⟩
     | cU ns =>
      cases j;obtain⟨p,rfl,m⟩:=D;refine .inl ⟨p,_,rfl,cb.mono g.sub m,λz i=>?_⟩
      exact k (.ref z) _ s (g.made i) ((C.trans n).trans r) ⟨z,rfl,⟨_,bu,by rw[NC];exact ay.ints _,g.dy i⟩,(g.bM i).2,(g.bM i).1,g.d6 i⟩
     | tup ds =>
      have j:(if HT.aO ds.length 0 a=0/\HT.aO ds.length ds.length b=ds.length then none else some (Res.dat (.tup (cutD ds a b))))=some o:=j
      split at j
      ·cases j
      ·rename_i hn;cases j;obtain⟨p,vs,rfl,m,rs⟩:=D;refine .inr ⟨p,vs,rfl,bb.mono g.sub m,by rw[rs.length];exact hn,λz i=>?_⟩
       obtain⟨S4,I⟩:=g.laid (o:=.tup (iq vs a b)) i;exact k (.ref z) _ _ S4 (((C.trans n).trans r).trans I) ⟨z,_,rfl,bb.of bu,ay.mono I (ay.cut a b rs)⟩
     | _=>cases j
end
noncomputable def oP (k:Nat) (p:cW):Nat->Option Addr:=λm=>if m=k then some p else none
def wz (h:fL (oP k p) b):b=p:=by
 obtain⟨m,z⟩:=h;unfold oP at z;split at z
 ·cases z;rfl
 ·cases z
section
variable {K:gj}{H0:Hp×Hp}{ps:Nat->Option cW}{σ:St}
def Jn (S:SR K H0 ps Z σ H n)(r:caps[k]? = some (some j))(ep:σ[j]? = some (some (.ref p)))(t:cu K H n p c) :
  SR K (H,n) (oP k p) ((bV caps Z).set k (.io c)) (d9 caps σ) H n:=by
 have u:k < (bV caps Z).length:=by
  unfold bV;rw[a8];exact (bc.mp r).1
 have g:∀{m:Nat}{s:Slot},m≠k->((bV caps Z).set k (.io c))[m]? = some s->(bV caps Z)[m]? = some s:=λ{m s} f h=>by
  rw[iN (Ne.symm f)] at h;exact h
 have Yf:∀{s:Slot},((bV caps Z).set k (.io c))[k]? = some s->s=.io c:=λ{s} h=>by
  rw[iW u] at h;exact (Option.some.inj h).symm
 have i:∀{m:Nat}{d:Dat},(((bV caps Z).set k (.io c))[m]? = some (.own d)\/((bV caps Z).set k (.io c))[m]? = some (.io d))->m=k:=λ{m d} h=>by
  by_cases f:m=k
  ·exact f
  ·rcases h with h | h
   ·exact absurd (g f h) kS.1
   ·exact absurd (g f h) kS.2
 refine⟨S.sub,λb o e _=>e,λq l=>?_,λm d e=>?_,λm d e=>?_,λm d e=>?_,λm m' d d' q w x _ _=>(i w).trans (i x).symm,?_,λq o e=>.inl e⟩
 ·rw[wz l];obtain⟨⟨o,e⟩,_⟩:=t.some;rw[e];simp
 ·have f:m≠k:=λz=>by subst z;cases Yf e
  obtain⟨y,A,B⟩:=xZ (g f e);obtain⟨v,a,b⟩:=S.dat y d B;exact⟨v,wK A a,b⟩
 ·have f:=i (.inl e);subst f;cases Yf e
 ·have f:=i (.inr e);subst f;cases Yf e;exact⟨p,wK r ep,t,by unfold oP;rw[if_pos rfl]⟩
 ·simp[bV,d9]
def NO:noOwn ((bV caps Z).set k (.io c))=true:=by
 unfold noOwn;rw[j4];intro s a
 rcases List.mem_or_eq_of_mem_set a with h | h
 ·exact j4.mp (BJ (caps:=caps) (Z:=Z)) s h
 ·rw[h]
end
section
variable {X:Cx}{pos:qe}
theorem Kc (qi:∀(u:Hp×Hp) (w:Nat->Option cW) (Z:DS) (h:St) (H E:Hp) (items:List Dat) (z:DS) (R:It->Hp->Prop),fi Z=some (items,z)->SR X.K u w Z h H E->(∀J M B,SR X.K u w z h M B->af E B->JW X.K J items B->R J M)->T h H R)(u)(w)(Z)(h)(H E)(r)(z)(Q)(a:dN caps (some (kb,j)) fi g fc fe Z=some (r,z))(S:SR X.K u w Z h H E)(k:∀v f s,SR X.K u w z h f s->af E s->RR X.K u w z h f s v r->Q v f):rV (d9 caps) T (kn X.K g) (j8 X.K fc) (jM X.K fe) h H Q:=by
 unfold dN at a;cases O:fi Z with
 | none=>rw[O] at a;cases a
 | some dp =>
  obtain⟨items,Z1⟩:=dp;rw[O] at a;dsimp only[a5] at a;split at a
  ·rename_i ek;refine qi u w Z h H E items Z1 _ O S λJ M B S1 s1 jw=>?_
   intro D U;obtain⟨Hi2,P,V⟩:=mX (some (kb,j)) caps S1;have go:∀(io:Bool) (c:Dat),(ba (some (kb,j)) caps Z1)[j]? = some (kindAt io c)->∀(d:List Dat) (A:DS) (t:Dat),compLoop g fc fe items [] ((bV caps (ba (some (kb,j)) caps Z1)).set kb (.io c))=some (d,A)->A[kb]? = some (.io t) ->
     r=.own (.lst d)->z=(ba (some (kb,j)) caps Z1).set j (kindAt io t) ->
     ∃W:Nat->Nat->St->Hp->Prop,(∃m,W 0 m (d9 caps h) (upd M D (.lst [])))/\∀i m G f,W i m G f->(J.stop i f/\Q (.ref D) f)\/(J.go i f/\∀x N,J.lS i f x N->kn X.K g x G N λC H2=>j8 X.K fc C H2 λb Y =>
      if b=true then jM X.K fe C Y λy H4=>∃ys,H4 D=some (.lst ys)/\ys.length < bg/\∃I,I < m/\W (i + 1) I C (upd H4 D (.lst (ys++[y])))
      else ∃I,I < m/\W (i + 1) I C Y):=by
    intro io c F d A t n L er ed;subst er;subst ed;obtain⟨p,ep,op⟩:=P.at F;refine B2 (psB:=oP kb p) (Jn (caps:=caps) P ek ep op) NO U (jw.mono V) n λG f s vs S' sm O4 nb eD ra hd=>?_
    obtain⟨q,_,oq,eq⟩:=S'.io kb t L;have hq:q=p:=wz ⟨kb,eq⟩;subst hq;obtain⟨S3,rr⟩:=P.xo (v:=.ref D) (r:=.own (.lst d)) F ep (λb o e hb=>O4 b o e λl=>hb (wz l)) sm S'.sub nb oq ⟨D,rfl,⟨vs,eD,ra,hd⟩,U⟩
    exact k (.ref D) f s S3 ((s1.trans V).trans sm) rr
   split at a
   ·rename_i c F;cases n:compLoop g fc fe items [] ((bV caps (ba (some (kb,j)) caps Z1)).set kb (.io c)) with
    | none=>rw[n] at a;cases a
    | some q =>
     obtain⟨d,A⟩:=q;rw[n] at a;simp only[a5] at a;split at a
     ·rename_i t L;cases a;exact go false c F d A t n L rfl rfl
     ·cases a
   ·rename_i c F;cases n:compLoop g fc fe items [] ((bV caps (ba (some (kb,j)) caps Z1)).set kb (.io c)) with
    | none=>rw[n] at a;cases a
    | some q =>
     obtain⟨d,A⟩:=q;rw[n] at a;simp only[a5] at a;split at a
     ·rename_i t L;cases a;exact go true c F d A t n L rfl rfl
     ·cases a
   ·cases a
  ·cases a
def EH (kb j:Nat)(f:X.calm=true)(B:gR X.env.scope scope)(e:fH X.N NB scope caps=true)(h:dn X d iter fi)(i:∀(b:List (eT×cW)) (C:cW) (a:cA) (H:Hp) (c:List cW),DG (bT X NB scope b C a H c) d g)(k:∀(b:List (eT×cW)) (C:cW) (a:cA) (H:Hp) (c:List cW),jX (bT X NB scope b C a H c) ifs fc)(l:∀(b:List (eT×cW)) (C:cW) (a:cA) (H:Hp) (c:List cW),DD (bT X NB scope b C a H c) elt fe)(m:∀x,n5 iter X.env x=pure x:=by intro _;rfl) :
  DE X (.ListComp elt [⟨d,iter,ifs,0⟩] scope pos) (dN caps (some (kb,j)) fi g fc fe):=by
 obtain⟨wi,n,o⟩:=h;exact⟨_,BB (NB:=NB) (caps:=caps) (g:=kn X.K g) (tc:=j8 X.K fc) (te:=jM X.K fe) f B e n (λb C a H c=>⟨(i b C a H c).ly,k b C a H c,(l b C a H c).ly⟩) m,Kc o⟩
end
open PySem PySem.Spec PyProof.Rows L2
noncomputable def nI (d:Dat) (ds:List Dat):Option Nat:=(bY ds).findIdx? λy=>PyData.eqv y (toPy d)
noncomputable def yJ (K:W.Frag):V->List V->Hp->VK->Prop:=λx vs H Q=>∃a ds d y p b j,x=.ref p/\vs=[y]/\af a H/\Rd H p (.lst b)/\ay K a ds b/\Rep K a d y/\bB (.lst ds)=true/\bB d=true/\nI d ds=some j/\Q (.int (j:Int)) H
section
variable {X:Cx}
def MG (C:X.A.units + 65 < cLine):oy X "list.index" (yJ X.K):=by
 intro pins s σ H x vs v us Q I rx D h;obtain⟨Hi,ds,d,y,p,ws,j,rfl,rfl,sm,E,rs,G,f,b,J,q⟩:=h;cases rx;obtain⟨u,rfl,L⟩:=D.one;obtain⟨z,its,n,g,e⟩:=E.ok I.ai;have f:=hG.mp f;have b:=hG.mp b;obtain⟨as,k⟩:=oO I sm (show gY ds=true from f.1) rs g
 obtain⟨bs,M⟩:=hZ I sm b.1 G L;have l:PyData.canLayAll0 (bY ds)=true:=SeqAt.canLay_of_shaped f.2;have N:(toPy d).canLay0=true:=SeqAt.canLay_of_shaped b.2;have o:=SeqAt.readsAll_map _ _ _ l k;obtain⟨O,hit,r⟩:=k9.mp J;have i:its.length=(bY ds).length:=by simp only[<- o,a8]
 have get:∀(m:Nat) (h:m < its.toArray.size),SeqAt.readOf s.heap its.toArray[m]=(bY ds)[m]'(by rw[<- i];simpa using h):=λm h=>by
  have a:(its.map (SeqAt.readOf s.heap))[m]? = some (SeqAt.readOf s.heap its.toArray[m]):=by
   rw[cn];have:its[m]? = some its.toArray[m]:=by
    rw[cm (by simpa using h)]
    simp
   rw[this];rfl
  rw[o] at a;rw[cm (by rw[<- i];simpa using h)] at a
  exact (Option.some.inj a).symm
 have c:j < its.toArray.size:=by
  simp only[e7,i];exact O
 have hz:=g.length;have l63:=jt;refine call_meets F.slot_list_index ⟨_,e,rfl⟩ F.entry_list_index (F.args_list_index_2 _ _)
  (SeqAt.list_indexAt p its.toArray n none #[] u (λw=>PyData.eqv (SeqAt.readOf s.heap w) (toPy d)) j c ?_ ?_ λm t B=>?_) ⟨e,SeqAt.items_eqAt (by simpa using k) M l N (room_in_shaped b.2 C),?_⟩
 ·rw[e7] at c
  lia
 ·show PyData.eqv (SeqAt.readOf s.heap its.toArray[j]) (toPy d)=true;rw[get j c];exact hit
 ·show PyData.eqv (SeqAt.readOf s.heap its.toArray[m]) (toPy d)=false;rw[get m t];exact Bool.eq_false_iff.mpr (r m B)
 ·exact⟨.int (j:Int),H,I.tok _,⟨_,rfl⟩,q⟩
noncomputable def oA (f:DF) (fa:AF):DF:=λZ=>(f Z).bind λp=>(fa p.2).bind λq=>match p.1,q.1 with
 | .lst ds,[d]=>if bB (.lst ds) && bB d then (nI d ds).map λj:Nat=>(.int (j:Int),q.2) else none
 | _,_=>none
theorem Dl (E:DD X o f)(F:DA X [e] fa)(G:∀{to:TE}{t:TA},PE X o to->PA X [e] t->PE X (.Call (.Attribute o "index" g) [e] [] pos) (pC X.K "list" (yJ X.K) to t)):DD X (.Call (.Attribute o "index" g) [e] [] pos) (oA f fa):=by
 obtain⟨to,I,J⟩:=E;obtain⟨t,p,q⟩:=F;refine⟨_,G I p,λu w Z z H L d Z' Q b S k=>?_⟩
 unfold oA at b;cases l:f Z with
 | none=>rw[l] at b;cases b
 | some dp =>
  obtain⟨c,Z1⟩:=dp;rw[l] at b;simp only[a5] at b;cases m:fa Z1 with
  | none=>rw[m] at b;cases b
  | some ap =>
   obtain⟨as,Z2⟩:=ap;rw[m] at b;dsimp only[a5] at b;split at b
   ·rename_i ds x;split at b
    ·rename_i h;have h:=hG.mp h;cases n:nI x ds with
     | none=>rw[n] at b;cases b
     | some j =>
      rw[n] at b;cases b;refine J u w Z z H L _ Z1 _ l S λv M A B N O=>?_
      obtain⟨a,C,rfl,D,rs⟩:=O;refine⟨.inl ⟨rfl,C,.inl (Rd.mono B.sub D)⟩,q u w Z1 z M A _ _ _ m B λvs P i r s R=>?_⟩
      obtain⟨y,yr,rfl,T,U⟩:=R;cases U;exact⟨i,ds,x,y,a,C,j,rfl,rfl,r.sub,Rd.mono r.sub (Rd.mono s D),ay.mono s rs,T,h.1,h.2,n,k _ P i r (N.trans s) rfl⟩
    ·cases b
   ·cases b
end
end DV
end
section
namespace L2
open PySem PySem.Spec PyProof.Rows
end L2
namespace DV
open PySem PySem.Spec PyProof.Rows L2
end DV
end
section
namespace L2
open PySem PySem.Spec PyProof.Rows
def PE.or (h:PE X e t)(h':PE X e u):PE X e (λa H Q=>t a H Q\/u a H Q):=λb s a H Q I q=>q.elim (h b s a H Q I) (h' b s a H Q I)
def PS.or (h:PS X e t)(h':PS X e u):PS X e (λD a H=>t D a H\/u D a H):=λb s a H D I q=>q.elim (h b s a H D I) (h' b s a H D I)
def PG.or (h:PG X e t)(h':PG X e u):PG X e (λv a H Q=>t v a H Q\/u v a H Q):=λb s a H v z Q I r q=>q.elim (h b s a H v z Q I r) (h' b s a H v z Q I r)
noncomputable def L5 (n:Nat) (t:iQ):TG:=λv b H Q=>∃a xs,v=.ref a/\Rd H a (.lst xs)/\xs.length=n/\t xs b H Q
section
variable {X:Cx}{pos:qe}
def KU (j:X.calm=true)(h:mO X c t)(l:(nS c X.env).length=n:=by rfl)(f:(nS c X.env).findIdx? (·.1)=none:=by rfl):PG X (.Tuple c k pos) (L5 n t):=by
 intro d s g H v u Q I r hw;obtain⟨a,xs,p,q,w,hw⟩:=hw;subst p;cases r;obtain⟨z,its,m,i,e⟩:=q.ok I.ai;have x:s.heap.IsList a its.toArray:=⟨_,e,rfl,m,rfl⟩;rw[assign_Tuple];refine bt (VI ?_);unfold unpack;rw[show (nS c X.env).length=its.toArray.size by simp[l,<- w,i.length],f]
 refine bt (nL (W.kun_itemsOf (I.ok.hd j) x λh' hx=>?_))
 have y:Inv X d g H { s with heap:=h' }:=I.kept (t':=s.toks) λb o e=>hx b o (gW (fj e)) e
 exact h d _ g H xs _ Q y (by simpa using i) hw
end
end L2
namespace DV
open PySem PySem.Spec PyProof.Rows L2
noncomputable def wB (n:Nat) (a:List Dat->DS->Option DS):GF
 | .tup ds,Z=>if ds.length=n then a ds Z else none
 | .lst ds,Z=>if ds.length=n then a ds Z else none
 | _,_=>none
section
variable {X:Cx}{pos:qe}
def Fm (j:X.calm=true)(h:lL X b i)(l:(nS b X.env).length=n:=by rfl)(c:(nS b X.env).findIdx? (·.1)=none:=by rfl):DG X (.Tuple b k pos) (wB n i):=by
 obtain⟨t,p,q⟩:=h;refine⟨_,PG.or (Oq j p l c) (KU j p l c),λm o Z s H u d w v Q e S r k=>?_⟩
 unfold wB at e;split at e
 ·split at e
  ·rename_i f;obtain⟨a,vs,rfl,g,rs⟩:=r;exact .inl ⟨a,vs,rfl,bb.mono S.sub g,by rw[rs.length];exact f,q m o Z s H u _ w vs Q e S rs k⟩
  ·cases e
 ·split at e
  ·rename_i f;obtain⟨a,vs,rfl,g,rs⟩:=r;exact .inr ⟨a,vs,rfl,Rd.mono S.sub g,by rw[rs.length];exact f,q m o Z s H u _ w vs Q e S rs k⟩
  ·cases e
 ·cases e
end
noncomputable def xU:Dat->String
 | .aK=>"NoneType" | .bl _=>"bool" | .int _=>"int" | .str _=>"str" | .tup _=>"tuple" | .lst _=>"list" | .bN _=>"dict" | .exc _=>"" | .ins _ _=>"" | .cU _=>"" | .adr _=>"" | .dE _=>"" | .aY _ _=>""
noncomputable def qj (T a:String):Bool:=T == a || (T == "bool" && a == "int")
noncomputable def xl:List String:=["tuple","list","str","int","bool"]
def J4:∀T∈["NoneType","bool","int","str","tuple","list","dict"],∀a∈xl,W.kitOne [] (.type T) (.type a)=some (qj T a):=by decide +kernel
def lM {K:gj}{T a:String}(h:T∈["NoneType","bool","int","str","tuple","list","dict"]) (h':a∈xl):W.kitOne K (.type T) (.type a)=some (qj T a):=by
 rw[<- J4 T h a h'];rfl
noncomputable def isExc:Dat->Bool
 | .exc _=>true
 | .ins _ _=>true
 | .cU _=>true
 | .adr _=>true
 | .dE _=>true
 | .aY _ _=>true
 | _=>false
noncomputable def kD (d:Dat) (T:String):Option Bool:=if isExc d=false/\T∈xl then some (qj (xU d) T) else none
noncomputable def NQ (K:gj):List V->Hp->VK->Prop:=λxs H Q=>∃a d x T b,xs=[x,.ty T]/\af a H/\Rep K a d x/\kD d T=some b/\Q (.bl b) H
section
variable {X:Cx}{pos:qe}
def Ki:bO X (.builtin "isinstance") (NQ X.K):=by
 intro l s B H xs us Q I r h;obtain⟨Hi,d,x,T,b,rfl,sm,f,e,q⟩:=h;obtain⟨u,c,rfl,g,m⟩:=r.two;have m:c=.type T:=m;subst m;unfold kD at e;split at e
 case isFalse=>cases e
 case isTrue hh =>
  cases e;obtain⟨hx,j⟩:=hh;have a:∀tk,EP X l B Q (.bool (qj (xU d) T)) { s with toks:=tk }:=λtk=>⟨.bl _,H,I.tok _,rfl,q⟩
  cases d with
  | aK=>cases f;cases g;exact UR W.kitx_none I.fQ TX (lM (by decide) j) (λz=>nomatch z) a
  | bl y=>cases f;cases g;exact UR W.kitx_bool I.fQ TX (lM (by decide) j) (λz=>nomatch z) a
  | int i=>cases f;obtain⟨t,rfl⟩:=g;exact UR W.kitx_int I.fQ TX (lM (by decide) j) (λz=>nomatch z) a
  | str y=>cases f;obtain⟨t,rfl⟩:=g;exact UR W.kitx_str I.fQ TX (lM (by decide) j) (λz=>nomatch z) a
  | tup ds =>
   obtain⟨p,vs,rfl,v,_⟩:=f;cases g;obtain⟨its,_,⟨o,k,w,_⟩,_⟩:=I.tuple (bb.mono sm v);exact UR W.kitx_tuple I.fQ ⟨o,k,w⟩ (lM (by decide) j) (λz=>nomatch z) a
  | lst ds =>
   obtain⟨p,vs,rfl,v,_⟩:=f;cases g;obtain⟨z,its,n,_,k⟩:=(Rd.mono sm v).ok I.ai;exact UR W.kitx_list I.fQ ⟨_,k,rfl⟩ (lM (by decide) j) (λz=>nomatch z) a
  | bN A =>
   obtain⟨p,kvs,rfl,D,_⟩:=f;cases g;obtain⟨_,_,ws,_,o,es,ep,k,w,_⟩:=I.ai p _ (sm _ _ D);exact UR W.kitx_dict I.fQ ⟨o,k,w.1⟩ (lM (by decide) j) (λz=>nomatch z) a
  | exc C=>cases hx
  | ins C fs=>cases hx
  | cU ns=>cases hx
  | adr p=>cases hx
  | dE A=>cases hx
  | aY fz A=>cases hx
noncomputable def lu (T:String) (f:DF):DF:=λZ=>(f Z).bind λp=>(kD p.1 T).map λb=>(.bl b,p.2)
theorem wb (u:DD X e f)(l:Gl X "isinstance")(m:X.mg "isinstance"=none)(n:Gl X g)(o:X.mg g=none)(w:P2 g=some (.type T))(x:g≠"__name__":=by decide)(hd:bJ g:=by decide)(r:bK X e [.Name g q]:=by rfl):DD X (.Call (.Name "isinstance" p) [e,.Name g q] [] pos) (lu T f):=by
 obtain⟨t,y,z⟩:=u;refine⟨_,pQ Ki l m (by decide +kernel) (jB y (jB (Ms (v:=.ty T) n o w rfl x hd) nD rfl) r) (by decide) (by decide) r rfl,λA B Z C H D d Z' Q a S k=>?_⟩
 unfold lu at a;cases i:f Z with
 | none=>rw[i] at a;cases a
 | some dp =>
  obtain⟨c,Z1⟩:=dp;rw[i] at a;simp only[a5] at a;cases j:kD c T with
  | none=>rw[j] at a;cases a
  | some b =>
   rw[j] at a;cases a;exact z A B Z C H D c _ _ i S λv E h s F G=>⟨h,c,v,T,b,rfl,s.sub,G,j,k _ E h s F rfl⟩
end
end DV
end
section
namespace L2
open PySem PySem.Spec PyProof.Rows
section
variable {X:Cx}
noncomputable def nJ (b:Bool):R2:=λy x H Q=>∃a o,x=.ref a/\gV H a y o/\Q (.bl (if b then !o.isSome else o.isSome)) H
def vh (b:X.A.units + 1 < vi):aI X (l4 .In) (nJ false):=by
 intro pins s σ H x y v u Q I rx c h;obtain⟨a,o,rfl,g,q⟩:=h;cases c;exact Lk b I g rx λs' d=>⟨.bl _,H,d,rfl,q⟩
def zM (b:X.A.units + 1 < vi):aI X (l4 .NotIn) (nJ true):=by
 intro pins s σ H x y v u Q I rx c h;obtain⟨a,o,rfl,g,q⟩:=h;cases c;exact Iu b I g rx λs' d=>⟨.bl _,H,d,rfl,q⟩
def Dh:bO X (.type "dict") (λxs H Q=>∃a kvs,xs=[.ref a]/\Rd H a (.dK kvs)/\∀p,H p=none->Q (.ref p) (upd H p (.dK kvs))):=by
 intro pins s σ H xs us Q I r h;obtain⟨a,kvs,rfl,b,q⟩:=h;obtain⟨u,rfl,c⟩:=r.one;cases c;exact MR I b λp s' d e=>⟨.ref p,_,e,rfl,q p d⟩
end
end L2
namespace DV
open PySem PySem.Spec PyProof.Rows L2
noncomputable def dc (a:List (eT×Dat)) (k:eT):Option Dat:=(a.find? λp=>decide (p.1=k)).map (·.2)
noncomputable def sV (a:List (eT×Dat)) (k:eT) (d:Dat):List (eT×Dat):=if (dc a k).isSome=true then a.map (λp=>if p.1=k then (p.1,d) else p) else a++[(k,d)]
section
variable {K:gj}{H:Hp}
theorem bH.find:∀{c:List (eT×Dat)}{kvs:List (Key×V)}(k:eT),bH K H c kvs->(∀d,dc c k=some d->∃v,eB kvs (nE k)=some v/\Rep K H d v)/\(dc c k=none->eB kvs (nE k)=none)
 | [],_,k,h=>by
  rw[show _=[] from h]
  exact⟨λd z=>by simp[dc] at z,λ_=>rfl⟩
 | (f,d')::c,_,k,⟨v,r,e,q,t⟩=>by
  rw[e];obtain⟨a,b⟩:=bH.find k t
  by_cases g:f=k
  ·subst g;have i:dc ((f,d')::c) f=some d':=by simp[dc]
   rw[i,oi rfl];exact⟨λd z=>⟨v,rfl,by cases z;exact q⟩,λz=>by cases z⟩
  ·have i:dc ((f,d')::c) k=dc c k:=by simp[dc,g]
   rw[i,o8 (by simpa using g)]
   exact⟨a,b⟩
theorem bH.has (k:eT)(h:bH K H c kvs):(eB kvs (nE k)).isSome=(dc c k).isSome:=by
 obtain⟨a,b⟩:=h.find k;cases e:dc c k with
 | none=>rw[b e];rfl
 | some d=>obtain⟨v,f,_⟩:=a d e;rw[f];rfl
theorem bH.ic:∀{a:List (eT×Dat)}{kvs:List (Key×V)}(k:eT) {d:Dat}{v:V},bH K H a kvs->Rep K H d v->bH K H (a.map λp=>if p.1=k then (p.1,d) else p) (kvs.map λp=>if p.1=nE k then (p.1,v) else p)
 | [],_,k,_,_,h,_=>by simp only[show _=[] from h];exact rfl
 | (f,d')::a,_,k,d,v,⟨w,r,e,q,t⟩,b=>by
  rw[e,gi,gi]
  by_cases c:f=k
  ·subst c;rw[if_pos rfl,if_pos rfl];exact⟨v,_,rfl,b,bH.ic f t b⟩
  ·rw[if_neg c,if_neg (by simpa using c)]
   exact⟨w,_,rfl,q,bH.ic k t b⟩
theorem bH.snoc:∀{b:List (eT×Dat)}{kvs:List (Key×V)}(k:eT) {d:Dat}{v:V},bH K H b kvs->Rep K H d v->bH K H (b++[(k,d)]) (kvs++[(nE k,v)])
 | [],_,k,_,v,h,a=>by rw[show _=[] from h];exact⟨v,[],rfl,a,rfl⟩
 | (_,_)::_,_,k,_,_,⟨w,r,e,q,t⟩,a=>⟨w,r++_,by rw[e];rfl,q,bH.snoc k t a⟩
def bH.put (k:eT)(h:bH K H a kvs)(b:Rep K H d v):bH K H (sV a k d) (putK kvs (nE k) v):=by
 unfold sV putK;rw[qZ,h.has k];split
 ·exact h.ic k b
 ·exact h.snoc k b
end
noncomputable def dv:Dat->Dat->Option Dat
 | .bN a,.str k=>dc a k
 | c,n=>pf c n
noncomputable def pN (f g:DF):DF:=λZ=>(f Z).bind λp=>(g p.2).bind λq=>(dv p.1 q.1).map λd=>(d,q.2)
noncomputable def o4 (i:Nat) (g:DF):DF:=λZ=>((Z[i]?).bind ff).bind λ_=>(g Z).bind λq=>((q.2[i]?).bind ff).bind λc=>(dv c q.1).map λd=>(d,q.2)
section
variable {X:Cx}{pos:qe}{a b:gs}
theorem Ek (R:X.A.units + 1 < vi)(T:DD X a f)(U:DD X b g)(J:mD b):DD X (.Subscript a b pos) (pN f g):=by
 obtain⟨ta,K,L⟩:=T;obtain⟨tb,M,N⟩:=U;refine⟨_,PE.or (zZ BO K M J) (vG R K M J),λr s Z t H O d Z' Q e S k=>?_⟩
 unfold pN at e;cases u:f Z with
 | none=>rw[u] at e;cases e
 | some p =>
  obtain⟨c,Z1⟩:=p;rw[u] at e;simp only[a5] at e;cases w:g Z1 with
  | none=>rw[w] at e;cases e
  | some q =>
   obtain⟨n,Z2⟩:=q;rw[w] at e;simp only[a5] at e;cases h:dv c n with
   | none=>rw[h] at e;cases e
   | some d' =>
    rw[h] at e;cases e
    by_cases hd:∃z i,c=.bN z/\n=.str i
    ·obtain⟨z,i,rfl,rfl⟩:=hd;refine .inr (L r s Z t H O _ Z1 _ u S λx B j C D E=>?_)
     refine N r s Z1 t B j _ _ _ w C λy F l m o G=>?_
     obtain⟨p,kvs,rfl,V,W⟩:=Rep.mono o E;cases G;obtain⟨v,Y,I⟩:=(W.find i).1 d h;refine⟨p,v,rfl,?_,k v F l m (D.trans o) I⟩;rw[<- Y];exact gV.k (k:=nE i) (m.sub _ _ V)
    ·have P:pf c n=some d:=by
      unfold dv at h;split at h
      ·rename_i z i;exact absurd ⟨z,i,rfl,rfl⟩ hd
      ·exact h
     refine .inl (L r s Z t H O _ Z1 _ u S λx B j C D E=>?_)
     refine N r s Z1 t B j _ _ _ w C λy F l m o G=>?_
     exact Bw ((Rep.mono o E).top m.sub) G P λv I=>k v F l m (D.trans o) I
theorem Et (i:Nat)(V:X.A.units + 1 < vi)(F:X.N[i]? = some x)(G:cc X.env.scope x)(W:DD X b g)(I:mD b)(hd:bJ x:=by decide)(u:cM x:=by decide):DD X (.Subscript (.Name x U) b pos) (o4 i g):=by
 obtain⟨tb,J,K⟩:=W;refine⟨_,PE.or (zZ BO (eC F G hd u) J I) (vG V (eC F G hd u) J I),λL M Z O H P d Z' Q e S k=>?_⟩
 unfold o4 at e;cases w:(Z[i]?).bind ff with
 | none=>rw[w] at e;cases e
 | some c0 =>
  rw[w] at e;simp only[a5] at e;cases o:g Z with
  | none=>rw[o] at e;cases e
  | some q =>
   obtain⟨n,Z2⟩:=q;rw[o] at e;simp only[a5] at e;cases r:(Z2[i]?).bind ff with
   | none=>rw[r] at e;cases e
   | some c =>
    rw[r] at e;simp only[a5] at e;cases f:dv c n with
    | none=>rw[f] at e;cases e
    | some d' =>
     rw[f] at e;cases e;obtain⟨R,s,_⟩:=S.peek w
     by_cases hd:∃t h,c=.bN t/\n=.str h
     ·obtain⟨t,h,rfl,rfl⟩:=hd;refine .inr ⟨R,s,K L M Z O H P _ _ _ o S λy z j l B C=>?_⟩
      obtain⟨Y,m,D⟩:=l.peek r;rw[s] at m;cases m;obtain⟨p,kvs,rfl,hp,rk⟩:=D;cases C;obtain⟨v,ev,E⟩:=(rk.find h).1 d f;refine⟨p,v,rfl,?_,k v z j l B E⟩;rw[<- ev];exact gV.k (k:=nE h) hp
     ·have T:pf c n=some d:=by
       unfold dv at f;split at f
       ·rename_i t h;exact absurd ⟨t,h,rfl,rfl⟩ hd
       ·exact f
      refine .inl ⟨R,s,K L M Z O H P _ _ _ o S λy z j l B C=>?_⟩
      obtain⟨Y,m,D⟩:=l.peek r;rw[s] at m;cases m;exact Bw D C T λv E=>k v z j l B E
noncomputable def gC (c:Bool):Dat->Dat->Option Res
 | .str k,.bN f=>some (.dat (.bl (if c then !(dc f k).isSome else (dc f k).isSome)))
 | .str k,.dE f=>some (.dat (.bl (if c then !(dc f k).isSome else (dc f k).isSome)))
 | d,e=>vc c d e
def xa:eE X (λx y H Q=>mh X.K c x y H Q\/nJ c x y H Q) (gC c):=by
 intro l m Z n H g x y d d' o Q e S rx h k;unfold gC at e;split at e
 ·cases e;rename_i f q;cases rx;obtain⟨p,kvs,rfl,i,j⟩:=h;refine .inr ⟨p,_,rfl,gV.k (k:=nE f) (S.sub _ _ i),?_⟩;rw[j.has f];exact k _ H g S (af.refl _) rfl
 ·cases e;rename_i f q;cases rx;obtain⟨p,r,kvs,rfl,i,j⟩:=h;refine .inr ⟨p,_,rfl,.inl ⟨kvs,nE f,.inr ⟨r,S.sub _ _ i⟩,rfl,rfl⟩,?_⟩;rw[j.has f];exact k _ H g S (af.refl _) rfl
 ·exact .inl (Er l m Z n H g x y _ _ o Q e S rx h k)
def y9 (c:X.A.units + 65 < vi):aI X (l4 .In) (λx y H Q=>mh X.K false x y H Q\/nJ false x y H Q):=aI.or (HA c) (vh (by lia))
def OB (c:X.A.units + 65 < vi):aI X (l4 .NotIn) (λx y H Q=>mh X.K true x y H Q\/nJ true x y H Q):=aI.or (Eh c) (zM (by lia))
noncomputable def zk:List Dat->Option Res
 | [.bN c]=>some (.own (.bN c))
 | _=>none
def OQ:CD X (λxs H Q=>∃a kvs,xs=[.ref a]/\Rd H a (.dK kvs)/\∀p,H p=none->Q (.ref p) (upd H p (.dK kvs))) zk:=by
 intro H0 ps Z σ H d vs ds o Q e S r k;unfold zk at e;split at e
 ·cases e;obtain⟨v,vr,rfl,⟨p,kvs,rfl,f,g⟩,h⟩:=r;cases h;refine⟨p,kvs,rfl,Rd.of (S.sub _ _ f),λq c=>?_⟩
  exact k (.ref q) _ d (S.made c) (af.refl _) ⟨q,rfl,⟨kvs,bu,g,S.dy c⟩,(S.bM c).2,(S.bM c).1,S.d6 c⟩
 ·cases e
end
end DV
end
section
namespace L2
open PySem PySem.Spec PyProof.Rows
section
variable {X:Cx}
def OC:aI X (Tg .Mult) (λx y H Q=>∃l xs n,x=.ref l/\y=.int n/\Rd H l (.lst xs)/\(n=0\/n=1)/\∀p,H p=none->Q (.ref p) (upd H p (.lst (if n=0 then [] else xs)))):=by
 intro pins s σ H x y v u Q I rx b h;obtain⟨l,xs,n,rfl,rfl,c,a,q⟩:=h;cases rx;obtain⟨tk,rfl⟩:=b;obtain⟨z,its,k,r,e⟩:=c.ok I.ai;have hz:=r.length;have hsz:its.toArray.size * n.toNat<=sizeLine:=by
  rcases a with rfl | rfl
  ·simp
  ·simp only[e7,Int.toNat_one,W6];lia
 have hxr:(-(2 ^ 63:Int)<=n)/\n < 2 ^ 63:=by rcases a with rfl | rfl <;> decide
 refine wpAny_binaryOp_repeat_ref (T:="list") (U:="int") (by decide) ⟨_,e,rfl⟩ (λs'=>X' s' n tk) noFill_list_mul
  F.fills_int_mul Yy repeat_list F.slot_int_index.lookup ?_
 refine Vf Yy (X' s n tk) F.entry_int_rmul (F.args_int_rmul_2 _ _) (int___rmul___int_list n tk l its.toArray k) ⟨e,rfl,⟨_,e,rfl⟩,?_⟩;refine Vf F.slot_list_mul ⟨_,e,rfl⟩ F.entry_list_mul (F.args_list_mul_2 _ _)
  (AutoListH.list___mul___list_int_3 l its.toArray k n tk (by simp[Vn];lia) (by rw[qo] at hsz;lia) (by simp only[YV];simpa using hsz)) ⟨e,?_⟩
 have d:(List.foldl (λf g=>f++g) #[] (U' (if its.toArray.isEmpty=true then 0 else n.toNat) its.toArray))=(if n=0 then [] else its).toArray:=by
  rcases a with rfl | rfl
  ·split <;> simp
  ·split
   ·rename_i h;have:its=[]:=by simpa using h
    subst this;simp
   ·simp
 rw[d];refine⟨.ref _,_,I.sd (t':=s.toks) (ys:=if n=0 then [] else xs) ?_ ?_,rfl,q _ I.fresh⟩
 ·rcases a with rfl | rfl
  ·exact .nil
  ·exact r
 ·rcases a with rfl | rfl
  ·exact qh _
  ·simpa using z
noncomputable def Bo (x:eT):It:=⟨λi _=>i < x.cps.size,λi H v a=>a=H/\∃c,x.cps[i]? = some c/\v=.str ⟨#[c]⟩,λi _=>x.cps.size<=i⟩
def Lh {P:hJ}{w:kq}{K:gj}{C:gs}(x:eT) (t:Zp) (it:cW):Turn P w K C (Bo x) [it] it (λi h=>h.IsStrIter it "str_ascii_iterator" x t i) where
 mem:=by simp
 obj:=λi h st b a=>by
  have e:b=it:=by simpa using a
  subst e;obtain⟨o,e,c,d⟩:=st;exact⟨o,e,λv z=>by rw[d] at z;cases z⟩
 keep:=λi h h' st k=>by
  obtain⟨o,e,c,d⟩:=st;exact⟨o,k it (by simp) o e,c,d⟩
 item:=by
  intro X l hw m A i f s B H E I g st n;subst l hw m;obtain⟨p,q,D,r,u,y⟩:=g it (by simp)
  have hx:x.cps[i]? = some x.cps[i]:=j' n;refine wpAny_pyNext_ascii_item st hx λh' j F=>?_
  have G:Inv X f B H { s with heap:=h',toks:=s.toks + 1 }:=I.turned (λb o a e=>(F.2 b a).trans e) p q r u y
  obtain⟨o,e,c,d⟩:=id j;exact⟨_,rfl,mi (s:={ s with heap:=h',toks:=s.toks + 1 }) e c d (by decide) ⟨.str ⟨#[x.cps[i]]⟩,H,G,⟨_,rfl⟩,⟨rfl,_,hx,rfl⟩,j,λb a=>(g b a).1⟩⟩
 done:=by
  intro X l hw m A i f s B H E I g st n;subst l hw m;obtain⟨p,q,D,r,u,y⟩:=g it (by simp)
  exact wpAny_pyNext_ascii_end (I.ok.hd A) st (UM n) λh' J=>⟨rfl,I.turned (t':=s.toks) (λb o a e=>J b o a e) p q r u y⟩
 self:=λ_ _ _ _ _ st h=>wpAny_pyIter_striter_ascii st h
noncomputable def OG (te:TE):TI:=λa H R=>te a H λv b=>∃x,v=.str x/\x.cps.all (· < 128)=true/\R (Bo x) b
def HW (g:PE X e te):PI X f e (OG te):=by
 intro c s i H R I h;refine aB (g c s i H _ I h) λv a ⟨y,j,d,k,l⟩=>?_
 obtain⟨x,rfl,m,q⟩:=l;obtain⟨t,rfl⟩:=k;refine wpAny_pyIter_ascii m ⟨a.heap.objs.size,[a.heap.objs.size],_,_,j,rfl,d.kept (t':=a.toks) λb o e=>el _ e,Lh x t _,⟨_,hB _ rfl,rfl,rfl⟩,λb n=>?_,q⟩
 rw[show b=a.heap.objs.size by simpa using n]
 exact d.kB (eS _) (d.ai.fresh (eS _))
theorem Cw:∀{ys:List eT}{a:List b8},aC (ys.map V.str) a->UQ a ys
 | [],_,h=>by cases h;exact .nil
 | y::ys,_,h=>by
  cases h with
  | cons r t =>
   obtain⟨tk,rfl⟩:=r;exact .cons _ _ (Cw t)
def Ln:oy X "str.join" (λx vs H Q=>∃(sep:eT) (p:cW) (ys:List eT),x=.str sep/\vs=[.ref p]/\Rd H p (.lst (ys.map V.str))/\sep.length<=16/\(ys.map (·.length)).sum + ys.length<=1048576/\Q (.str (j5 sep ys)) H):=by
 intro pins s σ H x vs v us Q I rx a h;obtain⟨sep,p,ys,rfl,rfl,b,c,d,q⟩:=h;obtain⟨t,rfl⟩:=rx;obtain⟨u,rfl,f⟩:=a.one;cases f;obtain⟨z,its,n,r,e⟩:=b.ok I.ai;exact join_listW (D:=p) (items:=its.toArray) ⟨_,e,rfl,n,rfl⟩ (by simpa using Cw r) c d λt' k=>⟨.str _,H,I.tok k,⟨t',rfl⟩,q⟩
theorem uQ:∀{bs:List Bool}{a:List b8},aC (bs.map V.bl) a->a=bs.map r4
 | [],_,h=>by cases h;rfl
 | b::bs,_,h=>by
  cases h with
  | cons r t =>
   cases (show _=r4 b from r)
   rw[uQ t];rfl
theorem JS (bs:List Bool):((lp bs.length).all λi=>(bs[i]?).getD true)=bs.all id:=by
 induction bs with
 | nil=>rfl
 | cons b r a =>
  rw[fk,Wt,UA,YE,UA,<- a];rfl
def Mi (g:X.calm=true):bO X (.builtin "all") (λxs H Q=>∃(p:cW) (bs:List Bool),xs=[.ref p]/\Rd H p (.lst (bs.map V.bl))/\Q (.bl (bs.all id)) H):=by
 intro pins s σ H xs us Q I r h;obtain⟨p,bs,rfl,j,q⟩:=h;obtain⟨u,rfl,k⟩:=r.one;cases k;obtain⟨z,its,n,l,e⟩:=j.ok I.ai;have c:=uQ l;subst c;have d:s.heap.IsList p (bs.map r4).toArray:=⟨_,e,rfl,n,rfl⟩;have m:p < s.heap.objs.size:=fj e;refine call_all_walk (To d ⟨s.heap.objs.size,[s.heap.objs.size,p],[s.heap.objs.size],(bs.map r4).toArray.size,_,_,λi=>(bs[i]?).getD true,rfl,
  Walks.list (A:=X.A.in1) (I.ok.hd g) _ p (gW m) (bs.map r4).toArray,⟨⟨_,hB _ rfl,rfl,rfl⟩,d.push _⟩,λi v s' Q' E' a f=>?_,λh' tk o=>?_⟩)
 ·have a:(bs.map r4)[i]? = some v:=by simpa using a
  rw[cn] at a;cases c:bs[i]? with
  | none=>rw[c] at a;cases a
  | some b =>
   rw[c] at a;cases a;simp only[c,Ux] at f;exact y0 f
 ·have t:(lp (bs.map r4).toArray.size).all (λi=>(bs[i]?).getD true)=bs.all id:=by
   rw[e7,a8];exact JS bs
  rw[t];refine⟨.bl _,H,?_,rfl,q⟩;exact I.kept (t':=tk) λb x ex=>o b x (λw=>by rw[iR.mp w] at ex;exact qp _ (fj ex)) (el _ ex)
end
end L2
namespace DV
open PySem PySem.Spec PyProof.Rows L2
section
variable {X:Cx}{pos:qe}
noncomputable def alt (f g:c->Option d):c->Option d:=λa=>match f a with
 | some b=>some b
 | none=>g a
def vC (h:alt f g a=some b):f a=some b\/g a=some b:=by
 unfold alt at h;split at h
 ·rename_i e;cases h;exact .inl e
 ·exact .inr h
theorem DE.alt (h:DE X e f)(h':DE X e g):DE X e (DV.alt f g):=by
 obtain⟨t,p,q⟩:=h;obtain⟨t',l,m⟩:=h';exact⟨_,PE.or p l,λa b Z c H i d j Q e S k=>(vC e).elim (λe=>.inl (q a b Z c H i d j Q e S k)) λe=>.inr (m a b Z c H i d j Q e S k)⟩
theorem cp.alt {st:Ue}{f g:SF}(h:cp X st f) (h':cp X st g):cp X st (DV.alt f g):=by
 obtain⟨t,p,q⟩:=h;obtain⟨t',i,j⟩:=h';exact⟨_,PS.or p i,λa b Z c H d o D e S k=>(vC e).elim (λe=>.inl (q a b Z c H d o D e S k)) λe=>.inr (j a b Z c H d o D e S k)⟩
theorem dn.alt (h:dn X a iter f)(h':dn X a iter g):dn X a iter (DV.alt f g):=by
 obtain⟨t,p,q⟩:=h;obtain⟨t',l,m⟩:=h';exact⟨_,PI.or p l,λb c Z d H i items j R e S k=>(vC e).elim (λe=>.inl (q b c Z d H i items j R e S k)) λe=>.inr (m b c Z d H i items j R e S k)⟩
noncomputable def uu:Dat->Dat->Option Res
 | .lst xs,.int n=>if n=0\/n=1 then some (.own (.lst (if n=0 then [] else xs))) else none
 | _,_=>none
def K3:eE X (λx y H Q=>∃l xs n,x=.ref l/\y=.int n/\Rd H l (.lst xs)/\(n=0\/n=1)/\∀p,H p=none->Q (.ref p) (upd H p (.lst (if n=0 then [] else xs)))) uu:=by
 intro H0 ps Z σ H b x y d d' o Q e S rx c k;unfold uu at e;split at e
 ·split at e
  ·rename_i f;cases e;obtain⟨p,vs,rfl,g,rs⟩:=rx;cases c;refine⟨p,vs,_,rfl,rfl,Rd.mono S.sub g,f,λq a=>?_⟩
   refine k (.ref q) _ b (S.made a) (af.refl _) ⟨q,rfl,⟨_,bu,?_,S.dy a⟩,(S.bM a).2,(S.bM a).1,S.d6 a⟩;split
   ·exact rfl
   ·exact rs
  ·cases e
 ·cases e
def Lc (c:DD X a f)(d:DD X b g):DE X (.BinOp a .Mult b pos) (cg uu f g):=kK OC K3 c d
noncomputable def kI (f:DF):IF:=λZ=>(f Z).bind λp=>match p.1 with
 | .str x=>if x.cps.all (· < 128)=true then some (x.cps.toList.map λc=>.str ⟨#[c]⟩,p.2) else none
 | _=>none
theorem Ga (h:DD X e f):dn X m e (kI f):=by
 obtain⟨t,p,q⟩:=h;refine⟨_,HW p,λn o Z r H s items Z' R a S k=>?_⟩
 unfold kI at a;cases j:f Z with
 | none=>rw[j] at a;cases a
 | some dp =>
  obtain⟨c,Z1⟩:=dp;rw[j] at a;dsimp only[a5] at a;split at a
  ·rename_i x;split at a
   ·rename_i u;cases a;refine q n o Z r H s _ _ _ j S λv w l z A B=>?_
    cases B;refine⟨x,rfl,u,k _ w l z A λi H' sm=>⟨λd hd=>?_,λC=>?_⟩⟩
    ·rw[cn,k7] at hd;cases b:x.cps[i]? with
     | none=>rw[b] at hd;cases hd
     | some c =>
      rw[b] at hd;cases hd;refine⟨(Array.getElem?_eq_some_iff.mp b).1,λv H2 y=>.inl ?_⟩
      obtain⟨D,c',g,E⟩:=y;rw[b] at g;cases g;exact⟨D,E⟩
    ·show x.cps.size<=i;simpa using C
   ·cases a
  ·cases a
noncomputable def cH:List Dat->Option (List eT)
 | []=>some []
 | .str x::r=>(cH r).map (x::·)
 | _::_=>none
theorem jP {K:gj}{H:Hp}:∀{ds:List Dat}{vs:List V}{ys:List eT},cH ds=some ys->ay K H ds vs->vs=ys.map V.str
 | [],_,_,e,r=>by cases e;exact r
 | d::ds,_,_,e,⟨v,vr,b,c,rs⟩=>by
  cases d with
  | str x =>
   have e:(cH ds).map (x::·)=some _:=e;cases a:cH ds with
   | none=>rw[a] at e;cases e
   | some ys' =>
    rw[a] at e;cases e;simp only[b,jP a rs];cases c;rfl
  | _=>cases e
noncomputable def jA (sep:eT) (f:DF):DF:=λZ=>(f Z).bind λp=>match p.1 with
 | .lst ds=>(cH ds).bind λys=>if sep.length<=16/\(ys.map (·.length)).sum + ys.length<=1048576 then some (.str (j5 sep ys),p.2) else none
 | _=>none
theorem EW (h:DD X e f)(s:∀{t:TA},PA X [e] t->PE X (.Call (.Attribute (.Constant (.str sep) j p0) "join" g) [e] [] pos) (pC X.K "str" (λx vs H Q=>∃(sep:eT) (p:cW) (ys:List eT),x=.str sep/\vs=[.ref p]/\Rd H p (.lst (ys.map V.str))/\sep.length<=16/\(ys.map (·.length)).sum + ys.length<=1048576/\Q (.str (j5 sep ys)) H) (tC (.str sep)) t))(u:bK X e []:=by rfl):DD X (.Call (.Attribute (.Constant (.str sep) j p0) "join" g) [e] [] pos) (jA sep f):=by
 obtain⟨t,p,q⟩:=h;refine⟨_,s (jB p nD u),λw y Z z H A d Z' Q b S k=>?_⟩
 unfold jA at b;cases i:f Z with
 | none=>rw[i] at b;cases b
 | some dp =>
  obtain⟨c,Z1⟩:=dp;rw[i] at b;dsimp only[a5] at b;split at b
  ·rename_i ds;cases l:cH ds with
   | none=>rw[l] at b;cases b
   | some ys =>
    rw[l] at b;simp only[a5] at b;split at b
    ·rename_i m;cases b;refine⟨rfl,q w y Z z H A _ _ _ i S λv B n o C D=>?_⟩
     obtain⟨a,vs,rfl,r,rs⟩:=D;rw[jP l rs] at r;exact⟨sep,a,ys,rfl,rfl,Rd.mono o.sub r,m.1,m.2,k _ B n o C rfl⟩
    ·cases b
  ·cases b
noncomputable def gh:List Dat->Option (List Bool)
 | []=>some []
 | .bl x::r=>(gh r).map (x::·)
 | _::_=>none
theorem wo {K:gj}{H:Hp}:∀{ds:List Dat}{vs:List V}{ys:List Bool},gh ds=some ys->ay K H ds vs->vs=ys.map V.bl
 | [],_,_,e,r=>by cases e;exact r
 | d::ds,_,_,e,⟨v,vr,b,c,rs⟩=>by
  cases d with
  | bl x =>
   have e:(gh ds).map (x::·)=some _:=e;cases a:gh ds with
   | none=>rw[a] at e;cases e
   | some ys' =>
    rw[a] at e;cases e;simp only[b,wo a rs];cases c;rfl
  | _=>cases e
noncomputable def nh:List Dat->Option Res
 | [.lst ds]=>(gh ds).map λbs=>.dat (.bl (bs.all id))
 | _=>none
def DB:CD X (λxs H Q=>∃(p:cW) (bs:List Bool),xs=[.ref p]/\Rd H p (.lst (bs.map V.bl))/\Q (.bl (bs.all id)) H) nh:=by
 intro H0 ps Z σ H f vs ds o Q e S r k;unfold nh at e;split at e
 ·rename_i c;cases b:gh c with
  | none=>rw[b] at e;cases e
  | some bs =>
   rw[b] at e;cases e;obtain⟨v,vr,rfl,⟨a,ws,rfl,d,rs⟩,g⟩:=r;cases g;rw[wo b rs] at d;exact⟨a,bs,rfl,Rd.mono S.sub d,k _ H f S (af.refl _) rfl⟩
 ·cases e
noncomputable def vU (i:Nat) (b f:DF):SF:=λZ=>(f Z).bind λp=>((p.2[i]?).bind DV.ownOf).bind λ_=>(b p.2).bind λq=>((q.2[i]?).bind DV.ownOf).bind λs=>match s.2,q.1 with
 | .bN a,.str k=>if a.length < bg then some (.next (q.2.set i (kindAt s.1 (.bN (sV a k p.1))))) else none
 | _,_=>none
theorem La (i:Nat)(P:X.A.units + 1 < vi)(Q:X.N[i]? = some x)(R:cc X.env.scope x)(h:DD X e f)(T:DD X l m)(hd:bJ x:=by decide)(C:cM x:=by decide)(U:r0 e (some (.Subscript (.Name x B) l pt)) pos.line X.env=pure false:=by rfl):cp X (.Assign [.Subscript (.Name x B) l pt] e pos) (vU i m f):=by
 obtain⟨t,p,q⟩:=h;obtain⟨tk,V,W⟩:=T;refine⟨_,yP P (eC Q R hd C) V p U,λE F Z r H Y o D e S k=>?_⟩
 unfold vU at e;cases s:f Z with
 | none=>simp only[s] at e;cases e
 | some dp =>
  obtain⟨d,Z1⟩:=dp;simp only[s] at e;dsimp only[a5] at e;cases u:(Z1[i]?).bind DV.ownOf with
  | none=>simp only[u] at e;cases e
  | some s0 =>
   obtain⟨b0,c0⟩:=s0;rw[u] at e;simp only[a5] at e;cases w:m Z1 with
   | none=>rw[w] at e;cases e
   | some kp =>
    obtain⟨n,Z2⟩:=kp;rw[w] at e;dsimp only[a5] at e;cases g:(Z2[i]?).bind DV.ownOf with
    | none=>rw[g] at e;cases e
    | some j =>
     obtain⟨io,c⟩:=j;simp only[g] at e;dsimp only[a5] at e;split at e
     ·rename_i ks G;split at e
      ·rename_i hz;cases e;refine q E F Z r H Y d Z1 _ s S λv H1 I J s1 r1=>?_
       obtain⟨a,z,_⟩:=J.at (jF u);refine⟨.ref a,z,W E F Z1 r H1 I _ Z2 _ w J λy H2 K L j r2=>?_⟩
       cases r2;obtain⟨b,M,ob⟩:=L.at (jF g);rw[z] at M;cases M;obtain⟨kvs,h1,O,h3⟩:=ob;refine⟨a,_,rfl,j6.k (k:=nE G) h1 (by rw[bH.length O];exact hz),?_⟩
       exact k r _ K (L.write (jF g) z ⟨_,bu,bH.put G O (Rep.mono j r1),h3⟩) (s1.trans j)
      ·cases e
     ·cases e
end
structure bw (P:hJ) (w:kq) (K:gj) (mg:eT->Option b8) (base:m3) (x:eT) (k:Nat) (sp:Sp):Prop where
 is:∃(f:cW) (fd:hI) (pn:List eT),aV P w K mg base aX k f fd pn sp/\mg x=some (.ref f)/\Wo K (.ref f)=true/\Binds K fd pn []
structure fg (K:gj) (mg:eT->Option b8) (x:eT) (d:Dat):Prop where
 is:∃v u,mg x=some u/\RelV v u/\∀H,Rep K H d v
section
variable {X:Cx}{pos:qe}{e:gs}{es:List gs}
def bw.has (h:bw X.prog X.w X.K X.mg X.base x k sp)(a:Gl X x)(c:cN k X.A):vY X x sp:=by
 obtain⟨f,d,pn,F,m,kp,b⟩:=h.is;exact⟨a,aX,k,f,d,pn,F,c,m,kp,b,Dz⟩
def HF (h:fg X.K X.mg x d)(a:Gl X x)(hd:bJ x):DD X (.Name x pos) (fC d):=FT ⟨a,h.is⟩ hd
def Hn (h:bw X.prog X.w X.K X.mg X.base x k (aF X.K fn))(c:Gl X x)(d:cN k X.A)(a:bJ x)(f:bK X e es)(b:(T3 pos (ph es X.env)).any (·.1)=false)(g:DA X (e::es) fa):DE X (.Call (.Name x p) (e::es) [] pos) (cJ fn fa):=F9 (h.has c d) g a f b
def KH (h:bw X.prog X.w X.K X.mg X.base x k (cV X.K j fn))(c:Gl X x)(d:cN k X.A)(a:bJ x)(f:bK X e es)(b:(T3 pos (ph es X.env)).any (·.1)=false)(g:j0 X (e::es) j i fa):DE X (.Call (.Name x p) (e::es) [] pos) (l3 fn i fa):=Ni (h.has c d) g a f b
def JT (a:Gl X "len")(b:X.mg "len"=none)(c:bK X e [])(d:DA X [e] fa):DE X (.Call (.Name "len" p) [e] [] pos) (cJ pM fa):=kr vz xH a b U7 d (by decide) (by decide) c rfl
def Gb (c:X.N.findIdx? (· == x)=some i)(d:cc X.env.scope x)(f:Gl X "len")(g:X.mg "len"=none)(hd:bJ x)(a:cM x):DD X (.Call (.Name "len" p) [.Name x b] [] pos) (mQ i):=L' i (dJ c) d f g hd a
def EA (a:Gl X "int")(b:X.mg "int"=none)(c:bK X e [])(d:DA X [e] fa):DE X (.Call (.Name "int" p) [e] [] pos) (cJ nP fa):=rA FI Mm a b (by decide +kernel) d (by decide) (by decide) c rfl
def KA (a:X.calm=true)(b:Gl X "all")(c:X.mg "all"=none)(d:bK X e [])(f:DA X [e] fa):DE X (.Call (.Name "all" p) [e] [] pos) (cJ nh fa):=kr (Mi a) DB b c (by decide +kernel) f (by decide) (by decide) d rfl
def Fq (c:X.A.units + 1 < vi)(d:mD b)(h:DD X a f)(i:DD X b g):DD X (.Subscript a b pos) (pN f g):=Ek c h i d
def K5 (d:X.N.findIdx? (· == x)=some i)(f:cc X.env.scope x)(h:X.A.units + 1 < vi)(hd:bJ x)(a:cM x)(j:mD b)(k:DD X b g):DD X (.Subscript (.Name x c) b pos) (o4 i g):=Et i h (dJ d) f k j hd a
def Dy (c:X.A.units + 64 < vi)(d:DD X a f)(h:DD X b g):DE X (.Compare a [.Eq] [b] pos) (cg (dP false) f g):=pK (Cy c) rL d h (jd _)
def Ee (c:X.A.units + 64 < vi)(d:DD X a f)(h:DD X b g):DE X (.Compare a [.NotEq] [b] pos) (cg (dP true) f g):=pK (B1 c) rL d h (jd _)
def G4 (c:DD X a f)(d:DD X b g):DE X (.Compare a [.Lt] [b] pos) (cg (dX (λ_ _=>true) λi j=>.bl (decide (i < j))) f g):=pK w4 (nK λ_ _ _ _=>rfl) c d (jd _)
def Ep (c:DD X a f)(d:DD X b g):DE X (.Compare a [.Gt] [b] pos) (cg (dX (λ_ _=>true) λi j=>.bl (decide (j < i))) f g):=pK CN (nK λ_ _ _ _=>rfl) c d (jd _)
def Ji (c:X.A.units + 65 < vi)(d:r3 .In b=false)(h:DD X a f)(i:DD X b g):DE X (.Compare a [.In] [b] pos) (cg (gC false) f g):=pK (y9 c) xa h i d
def Im (c:X.A.units + 65 < vi)(d:r3 .In b=false)(h:DD X a f)(i:DD X b g):DT X (.Compare a [.In] [b] pos) (eI (cg (gC false) f g)):=km (y9 c) xa h i d
def ND (c:X.A.units + 65 < vi)(d:r3 .NotIn b=false)(h:DD X a f)(i:DD X b g):DT X (.Compare a [.NotIn] [b] pos) (eI (cg (gC true) f g)):=km (OB c) xa h i d
theorem DK (h:DD X a f):DD X (.UnaryOp .USub a pos) (λZ=>(f Z).bind λp=>match p.1 with | .int i=>some (.int (-i),p.2) | _=>none):=by
 obtain⟨t,p,q⟩:=h;refine⟨_,Ex L0 p,λl m Z n H o d Z' Q b S k=>?_⟩
 cases g:f Z with
 | none=>rw[g] at b;cases b
 | some dp =>
  obtain⟨c,Z1⟩:=dp;rw[g] at b;simp only[a5] at b;split at b
  ·cases b;refine q l m Z n H o _ _ _ g S λv r j s u w=>?_
   cases w;exact⟨_,rfl,k _ r j s u rfl⟩
  ·cases b
noncomputable def fJ (scope:z4):List Str:=(scope.names.filter λp=>p.2 != .globalImplicit).map (·.1)
noncomputable def mV (N:List eT) (scope:z4):List (Option Nat):=(fJ scope).map λx=>if scope.names.lookup x == some .free then N.findIdx? (· == x) else none
def BQ (hnd:N.Nodup)(hXN:X.N=N)(h:X.calm=true)(B:gR X.env.scope scope)(f:fH X.N (fJ scope) scope (mV N scope)=true)(i:∀x,n5 iter X.env x=pure x)(j:dn X d iter fi)(k:∀(b:List (eT×cW)) (C:cW) (a:cA) (H:Hp) (c:List cW),DG (bT X (fJ scope) scope b C a H c) d g)(l:∀(b:List (eT×cW)) (C:cW) (a:cA) (H:Hp) (c:List cW),jX (bT X (fJ scope) scope b C a H c) ifs fc)(m:∀(b:List (eT×cW)) (C:cW) (a:cA) (H:Hp) (c:List cW),DD (bT X (fJ scope) scope b C a H c) elt fe):DE X (.ListComp elt [⟨d,iter,ifs,0⟩] scope pos) (dN (mV N scope) none fi g fc fe):=Eo h B f j k l m i
def NL (j:N.Nodup)(k:X.N=N)(l:X.N.findIdx? (· == y)=some i)(n:Loc X.env.scope y)(o:X.fn y=true\/X.env.scope.names.lookup y=some .local)(m:r0 (.ListComp elt [⟨f,iter,ifs,0⟩] scope pos) (some (.Name y py)) b.line X.env=pure true)(p:X.calm=true)(B:gR X.env.scope scope)(h:fH X.N (fJ scope) scope (mV N scope)=true)(q:∀x,n5 iter X.env x=pure x)(r:dn X f iter fi)(s:∀(c:List (eT×cW)) (C:cW) (a:cA) (H:Hp) (d:List cW),DG (bT X (fJ scope) scope c C a H d) f g)(t:∀(c:List (eT×cW)) (C:cW) (a:cA) (H:Hp) (d:List cW),jX (bT X (fJ scope) scope c C a H d) ifs fc)(u:∀(c:List (eT×cW)) (C:cW) (a:cA) (H:Hp) (d:List cW),DD (bT X (fJ scope) scope c C a H d) elt fe):cp X (.Assign [.Name y py] (.ListComp elt [⟨f,iter,ifs,0⟩] scope pos) b) (fW i (dN (mV N scope) none fi g fc fe)) :=
 EU i (k ▸ j) (dJ l) n o p B h r s t u m q
def F7 (a:X.N.Nodup)(b:X.N.findIdx? (· == x)=some i)(hx:Loc X.env.scope x)(c:X.fn x=true\/X.env.scope.names.lookup x=some .local):DG X (.Name x py) (CI i):=E9 i a (dJ b) hx c
def Gw (k:X.N.findIdx? (· == x)=some i)(l:cc X.env.scope x)(hd:bJ x)(h:cM x)(d:TF (.Name x b) "append" X.env (eval (.Name x b) X.env)=eval (.Name x b) X.env)(g:mZ X pos e)(f:(a.endLine == pos.line)=true)(m:bK X e [])(j:r0 (.Call (.Attribute (.Name x b) "append" a) [e] [] pos) none c.line X.env=pure false)(n:DA X [e] fa) :
  cp X (.Expr (.Call (.Attribute (.Name x b) "append" a) [e] [] pos) c) (kC (gG i nr fa)):=tX (G2 i (dJ k) l n hd h d g f m) j
def ME (b:TF (.Constant (.str sep) j p0) "join" X.env (eval (.Constant (.str sep) j p0) X.env)=eval (.Constant (.str sep) j p0) X.env)(d:mZ X pos e)(c:(a.endLine == pos.line)=true)(g:bK X e [])(h:DD X e f):DD X (.Call (.Attribute (.Constant (.str sep) j p0) "join" a) [e] [] pos) (jA sep f) :=
 EW h (λi=>mW PySem.F.plainAttrs_str PySem.F.slot_str_join PySem.F.type_str_join Ln zW i b d c g rfl) g
def Fh (c:X.calm=true)(d:(nS es X.env).length=es.length)(b:(nS es X.env).findIdx? (·.1)=none)(h:lL X es a):DG X (.Tuple es k pos) (wB es.length a):=Fm c h d b
end
def ky (h:cN k A):A.units + 1 < cLine:=by have:=h.un;lia
def sg (h:cN k A):A.units + 64 < cLine:=by have:=h.un;lia
def oB (h:cN k A):A.units + 65 < cLine:=by have:=h.un;lia
noncomputable def B0 (sc scope:z4):Bool:=scope.kind == .function && scope.names.all (λy=>y.2 != .cell && (y.2 != .local || scope.names.lookup y.1 == some .local) && (y.2 != .free || sc.names.lookup y.1 == some .cell || sc.names.lookup y.1 == some .free))
def p5 (h:B0 b scope=true):gR b scope:=by
 unfold B0 at h;simp only[dV] at h;have g:∀y∈scope.names,y.2≠.cell/\(y.2=.local->scope.names.lookup y.1=some .local)/\(y.2=.free->b.names.lookup y.1=some .cell\/b.names.lookup y.1=some .free):=λy a=>by
  have q:=j4.mp h.2 y a;simp only[dV,VX,bne_iff_ne,ne_eq,beq_iff_eq] at q;refine⟨q.1.1,λz=>?_,λz=>?_⟩
  ·rcases q.1.2 with w | w
   ·exact absurd z w
   ·exact w
  ·rcases q.2 with (w | w) | w
   ·exact absurd z w
   ·exact .inl w
   ·exact .inr w
 exact⟨by simpa using h.1,λy a=>(g y a).1,λy a=>(g y a).2.1,λy a=>(g y a).2.2⟩
section
variable {X:Cx}{pos:qe}
def Ly (d:X.N.findIdx? (· == x)=some i)(e:cc X.env.scope x)(f:ph (.Name x b::a) X.env=(false,eval (.Name x b) X.env)::ph a X.env)(hd:bJ x)(c:cM x)(h:DA X a g):j0 X (.Name x b::a) 0 i g:=Gd i (dJ d) e h f hd c
def Dd (b:bK X e a)(c:DD X e f)(d:j0 X a j i g):j0 X (e::a) (j + 1) i (dA f g):=JU c d b
def Di (b:bK X e a)(c:DD X e f)(d:DA X a g):DA X (e::a) (dA f g):=LF c d b
def Nn (c:(nS (e::a) X.env).map (·.2)=T8 e X.env::(nS a X.env).map (·.2))(d:DG X e g)(f:lL X a b):lL X (e::a) (zL g b):=M8 d f c
def Nd (b:VL [a] e pos.line X.env=pure false)(hw:VM [a] e X.env=pure none)(c:(nS [a] X.env).map (·.2)=[T8 a X.env])(h:DD X e f)(d:DG X a g):cp X (.Assign [a] e pos) (mR g f):=Ft h d b hw c
def JN (g:X.N.findIdx? (· == x)=some i)(j:cc X.env.scope x)(k:X.A.units + 1 < vi)(hd:bJ x)(d:cM x)(l:r0 e (some (.Subscript (.Name x b) a pt)) pos.line X.env=pure false)(h:DD X e f)(m:DD X a c):cp X (.Assign [.Subscript (.Name x b) a pt] e pos) (vU i c f):=La i k (dJ g) j h m hd d l
def Kq (b:Vz (hR X.prog X.w) X.A X.env X.xe)(c:X.calm=true)(d:∀x,n5 iter X.env x=pure x)(e:dn X a iter fi)(f:DG X a g)(h:gm X body fb):cp X (.For a iter body [] pos) (my fi g fb):=Gg b c e f h d
def NN (c:Gl X "range")(d:X.mg "range"=none)(e:ph [a] X.env=[(false,eval a X.env)])(h:DA X [a] f):dn X b (.Call (.Name "range" p) [a] [] pos) (DV.lX f):=LR c d h e
def Lu {e:gs}{f:DF}{l h:OF}{lo a:Option gs}{b:qe}(c:DD X e f) (d:DO X lo l) (hh:DO X a h):DE X (.Subscript e (.Slice lo a none b) pos) (jr f l h):=Kt c d hh
def Nm (c:∀b,Xr a X.env b=(do let v <- b;Xn a.pos;Ub [v] (Y8 v)))(h:DD X a f):DT X a (mz f):=E7 h c
end
end DV
end
section
namespace L2
open PySem PySem.Spec PyProof.Rows
section
variable {X:Cx}
def D6:aI X (l4 .LtE) (λx y H Q=>∃i j,x=.str i/\y=.str j/\Q (.bl (!decide (j.cps.toList < i.cps.toList))) H):=by
 intro pins s σ H x y v u Q I rx a h;obtain⟨i,j,rfl,rfl,q⟩:=h;obtain⟨t,rfl⟩:=rx;obtain⟨t',rfl⟩:=a;exact PySem.P.le_str ⟨.bl _,H,I,rfl,q⟩
end
end L2
namespace DV
open PySem PySem.Spec PyProof.Rows L2
noncomputable def gr:Dat->Dat->Option Res
 | .int i,.int j=>some (.dat (.bl (decide (i<=j))))
 | .str i,.str j=>some (.dat (.bl (!decide (j.cps.toList < i.cps.toList))))
 | _,_=>none
noncomputable def zT:R2:=λx y H Q=>gx (λi j=>.bl (decide (i<=j))) x y H Q\/(λx y H Q=>∃i j,x=.str i/\y=.str j/\Q (.bl (!decide (j.cps.toList < i.cps.toList))) H) x y H Q
section
variable {X:Cx}{pos:qe}
def r6:aI X (l4 .LtE) zT:=aI.or EV D6
def pW:eE X zT gr:=by
 intro H0 ps Z σ H a x y d d' o Q e S rx b k;unfold gr at e;split at e
 ·cases e;cases rx;cases b;exact .inl ⟨_,_,rfl,rfl,k _ H a S (af.refl _) rfl⟩
 ·cases e;cases rx;cases b;exact .inr ⟨_,_,rfl,rfl,k _ H a S (af.refl _) rfl⟩
 ·cases e
noncomputable def iV (o1 o2:Dat->Dat->Option Res) (f g h:DF):DF:=λZ=>(f Z).bind λx=>(g x.2).bind λy=>match o1 x.1 y.1 with
 | some (.dat (.bl true))=>(h y.2).bind λz=>(match o2 y.1 z.1 with | some (.dat (.bl b))=>some (.bl b,z.2) | _=>none)
 | some (.dat (.bl false))=>some (.bl false,y.2)
 | _=>none
theorem JP (J:aI X (l4 s) G)(q:eE X G o1)(K:aI X (l4 t) I)(L:eE X I o2)(Y:DD X a f)(hb:DD X b g)(hc:DD X c h)(hm:Vx [s,t] [b,c]=false):DD X (.Compare a [s,t] [b,c] pos) (iV o1 o2 f g h):=by
 obtain⟨ta,pa,qa⟩:=Y;obtain⟨tb,pb,qb⟩:=hb;obtain⟨tc,pc,qc⟩:=hc;refine⟨_,Dt J K pa pb pc hm,λi j Z l H Hi d Z' Q e S k=>?_⟩
 unfold iV at e;cases u:f Z with
 | none=>simp only[u] at e;cases e
 | some xp =>
  obtain⟨x,Z1⟩:=xp;simp only[u] at e;simp only[a5] at e;cases w:g Z1 with
  | none=>rw[w] at e;cases e
  | some yp =>
   obtain⟨y,Z2⟩:=yp;rw[w] at e;simp only[a5] at e;refine qa i j Z l H Hi x Z1 _ u S λM H1 N S1 O rx=>?_
   refine qb i j Z1 l H1 N y Z2 _ w S1 λA P r R o B=>?_
   split at e
   ·rename_i C;refine q i j Z2 l P r M A x y _ _ C R (Rep.mono o rx) B λv D m E p n=>?_
    cases n;refine⟨true,rfl,?_⟩;rw[if_pos rfl];cases F:h Z2 with
    | none=>rw[F] at e;cases e
    | some zp =>
     obtain⟨z,Z3⟩:=zp;rw[F] at e;simp only[a5] at e;refine qc i j Z2 l D m z Z3 _ F E λzv H4 T S4 U rz=>?_
     split at e
     ·rename_i b V;cases e;exact L i j _ l H4 T A zv y z _ Q V S4 (Rep.mono (p.trans U) B) rz λv H5 W S5 s5 n=>k v H5 W S5 ((((O.trans o).trans p).trans U).trans s5) n
     ·cases e
   ·rename_i C;cases e;refine q i j _ l P r M A x y _ _ C R (Rep.mono o rx) B λv D m E p n=>?_
    cases n;refine⟨false,rfl,?_⟩;rw[if_neg (by simp)]
    exact k _ D m E ((O.trans o).trans p) rfl
   ·cases e
def L6 (d:Vx [.LtE,.LtE] [b,c]=false)(e:DD X a f)(i:DD X b g)(j:DD X c h):DD X (.Compare a [.LtE,.LtE] [b,c] pos) (iV gr gr f g h):=JP r6 pW r6 pW e i j d
end
section
variable {X:Cx}{pos:qe}{e:gs}
def OO (a:Gl X "isinstance")(b:X.mg "isinstance"=none)(c:Gl X "str")(d:X.mg "str"=none)(g:bK X e [.Name "str" q])(h:DD X e f):DD X (.Call (.Name "isinstance" p) [e,.Name "str" q] [] pos) (lu "str" f):=wb h a b c d (by decide +kernel) (by decide) (by decide) g
def FQ (a:Gl X "isinstance")(b:X.mg "isinstance"=none)(c:Gl X "tuple")(d:X.mg "tuple"=none)(g:bK X e [.Name "tuple" q])(h:DD X e f):DD X (.Call (.Name "isinstance" p) [e,.Name "tuple" q] [] pos) (lu "tuple" f):=wb h a b c d (by decide +kernel) (by decide) (by decide) g
def Jp (a:Gl X "isinstance")(b:X.mg "isinstance"=none)(c:Gl X "list")(d:X.mg "list"=none)(g:bK X e [.Name "list" q])(h:DD X e f):DD X (.Call (.Name "isinstance" p) [e,.Name "list" q] [] pos) (lu "list" f):=wb h a b c d (by decide +kernel) (by decide) (by decide) g
end
section
variable {X:Cx}{pos:qe}
noncomputable def oQ (o1 o2:Dat->Dat->Option Res) (f g h:DF):BF:=λZ=>(iV o1 o2 f g h Z).bind λp=>match p.1 with
 | .bl b=>some (b,p.2)
 | _=>none
theorem Ny (K:aI X (l4 t) w)(r:eE X w o1)(L:aI X (l4 u) A)(M:eE X A o2)(ha:DD X a f)(hb:DD X b g)(hc:DD X c h)(hm:Vx [t,u] [b,c]=false):DT X (.Compare a [t,u] [b,c] pos) (oQ o1 o2 f g h):=by
 obtain⟨ta,pa,qa⟩:=ha;obtain⟨tb,pb,qb⟩:=hb;obtain⟨tc,pc,qc⟩:=hc;refine⟨_,GP K L pa pb pc hm,λl m Z i H Hi d Z' Q j S k=>?_⟩
 unfold oQ at j;cases e:iV o1 o2 f g h Z with
 | none=>rw[e] at j;cases j
 | some dp =>
  obtain⟨dd,Z0⟩:=dp;rw[e] at j;dsimp only[a5] at j;cases dd with
  | bl b0 =>
   cases j;show v8 w A ta tb tc i H _;unfold iV at e;cases B:f Z with
   | none=>simp only[B] at e;cases e
   | some xp =>
    obtain⟨x,Z1⟩:=xp;simp only[B] at e;simp only[a5] at e;cases C:g Z1 with
    | none=>rw[C] at e;cases e
    | some yp =>
     obtain⟨y,Z2⟩:=yp;rw[C] at e;simp only[a5] at e;refine qa l m Z i H Hi x Z1 _ B S λN H1 O S1 P rx=>?_
     refine qb l m Z1 i H1 O y Z2 _ C S1 λD R s T p E=>?_
     split at e
     ·rename_i F;refine r l m Z2 i R s N D x y _ _ F T (Rep.mono p rx) E λv G n I q o=>?_
      cases o;refine⟨true,rfl,?_⟩;rw[if_pos rfl];cases J:h Z2 with
      | none=>rw[J] at e;cases e
      | some zp =>
       obtain⟨z,Z3⟩:=zp;rw[J] at e;simp only[a5] at e;refine qc l m Z2 i G n z Z3 _ J I λzv H4 U S4 V rz=>?_
       split at e
       ·rename_i b W;cases e;exact M l m _ i H4 U D zv y z _ _ W S4 (Rep.mono (q.trans V) E) rz λv H5 Y S5 s5 o=>⟨_,o,k H5 Y S5 ((((P.trans p).trans q).trans V).trans s5)⟩
       ·cases e
     ·rename_i F;cases e;refine r l m _ i R s N D x y _ _ F T (Rep.mono p rx) E λv G n I q o=>?_
      cases o;refine⟨false,rfl,?_⟩;rw[if_neg (by simp)]
      exact⟨_,rfl,k G n I ((P.trans p).trans q)⟩
     ·cases e
  | _=>cases j
def Hy (d:Vx [.LtE,.LtE] [b,c]=false)(e:DD X a f)(i:DD X b g)(j:DD X c h):DT X (.Compare a [.LtE,.LtE] [b,c] pos) (oQ gr gr f g h):=Ny r6 pW r6 pW e i j d
end
noncomputable def yL:List eT->Bool
 | []=>true
 | x::r=>!(r.any (· == x)) && yL r
theorem tj:∀{l:List eT},yL l=true->l.Nodup
 | [],_=>za
 | x::r,h=>by
  have h:=hG.mp h;refine ib.mpr ⟨λm=>?_,tj h.2⟩
  have:r.any (· == x)=true:=j3.mpr ⟨x,m,by simp⟩
  rw[this] at h;cases h.1
end DV
end
section
namespace dB
open PySem PySem.W PyProof.Rows
inductive Comes {α:Type}(lt:Nat->Nat->Bool) (ok:Nat->Nat->Prop):KasT α->α->Prop
 | ret (a:α):Comes lt ok (.ret a) a
 | ask {i j:Nat}{k:Bool->KasT α}{a:α}(h:ok i j) (r:Comes lt ok (k (lt i j)) a):Comes lt ok (.ask i j k) a
theorem Comes.bind:∀{t:KasT c}{a:c},Comes lt ok t a->Comes lt ok (f a) b->Comes lt ok (t.bind f) b
 | _,_,.ret a,h=>h
 | _,_,.ask h r,q=>.ask h (r.bind q)
section
variable {lt:Nat->Nat->Bool}{n:Nat}
structure Ord (lt:Nat->Nat->Bool) (n:Nat):Prop where
 trans:∀i j k,lt i j=true->lt j k=true->lt i k=true
 total:∀i j,i < n->j < n->i≠j->lt i j=true\/lt j i=true
 eG:∀i,lt i i=false
noncomputable abbrev okN (n:Nat):Nat->Nat->Prop:=λi j=>i < n/\j < n/\i≠j
structure cS (p:Array Nat) (n:Nat):Prop where
 size:p.size=n
 lt:∀i,i < n->p.getD i 0 < n
 inj:∀i j,i < n->j < n->p.getD i 0=p.getD j 0->i=j
 pm:p.toList.Perm (lp n)
def pz {p q:Array Nat}{i j:Nat}(h:p[i]? = q[j]?):p.getD i 0=q.getD j 0:=by
 rw[lq,lq,h]
def cS.ok (P:cS p n)(a:i < n)(b:j < n)(h:i≠j):okN n (p.getD i 0) (p.getD j 0):=⟨P.lt i a,P.lt j b,λz=>h (P.inj i j a b z)⟩
noncomputable def Up (lt:Nat->Nat->Bool) (p:Array Nat) (m:Nat):Prop:=∀i j,i < j->j < m->lt (p.getD i 0) (p.getD j 0)=true
noncomputable def Down (lt:Nat->Nat->Bool) (p:Array Nat) (m:Nat):Prop:=∀i j,i < j->j < m->lt (p.getD j 0) (p.getD i 0)=true
def Up.succ (O:Ord lt n)(P:cS p n)(h:Up lt p m)(b:m < n)(h1:1<=m)(d:lt (p.getD m 0) (p.getD (m - 1) 0)=false):Up lt p (m + 1):=by
 intro i j c hj
 by_cases z:j < m
 ·exact h i j c z
 ·have z:j=m:=by lia
  subst z;have a:lt (p.getD (j - 1) 0) (p.getD j 0)=true:=by
   rcases O.total _ _ (P.lt j b) (P.lt (j - 1) (by omega)) (λz=>by have:=P.inj j (j - 1) b (by omega) z;omega) with q | q
   ·rw[d] at q;cases q
   ·exact q
  by_cases e:i=j - 1
  ·rw[e];exact a
  ·exact O.trans _ _ _ (h i (j - 1) (by omega) (by omega)) a
def Down.succ (O:Ord lt n)(h:Down lt p m)(h1:1<=m)(a:lt (p.getD m 0) (p.getD (m - 1) 0)=true):Down lt p (m + 1):=by
 intro i j b hj
 by_cases z:j < m
 ·exact h i j b z
 ·have z:j=m:=by lia
  subst z
  by_cases c:i=j - 1
  ·rw[c];exact a
  ·exact O.trans _ _ _ a (h i (j - 1) (by omega) (by omega))
theorem sY (O:Ord lt n)(P:cS p n):∀(f m:Nat),1<=m->m + f<=n->Up lt p m->∃r,Comes lt (okN n) (kas_asc p f m) r/\m<=r/\r<=m + f/\Up lt p r/\(r < m + f->lt (p.getD r 0) (p.getD (r - 1) 0)=true)
 | 0,m,j,k,g=>⟨m,.ret m,eS _,eS _,g,λh=>by lia⟩
 | f + 1,m,j,k,g=>by
  have ai:okN n (p.getD m 0) (p.getD (m - 1) 0):=P.ok (by omega) (by omega) (by omega)
  cases i:lt (p.getD m 0) (p.getD (m - 1) 0) with
  | true =>
   refine⟨m,.ask ai ?_,eS _,by lia,g,λ_=>i⟩
   rw[i];exact .ret m
  | false =>
   obtain⟨r,a,b,c,d,e⟩:=sY O P f (m + 1) (by lia) (by omega) (g.succ O P (by omega) j i)
   refine⟨r,.ask ai ?_,by omega,by omega,d,λh=>e (by omega)⟩
   rw[i];exact a
theorem Ab (O:Ord lt n)(P:cS p n):∀(f m:Nat),1<=m->m + f<=n->Down lt p m->∃r,Comes lt (okN n) (kas_desc f p m 0) (p,r,0)/\m<=r/\r<=m + f/\Down lt p r
 | 0,m,h,i,e=>⟨m,.ret _,eS _,eS _,e⟩
 | f + 1,m,h,i,e=>by
  have ai:okN n (p.getD m 0) (p.getD (m - 1) 0):=P.ok (by omega) (by omega) (by omega)
  cases g:lt (p.getD m 0) (p.getD (m - 1) 0) with
  | true =>
   obtain⟨r,a,b,c,d⟩:=Ab O P f (m + 1) (by lia) (by omega) (e.succ O h g)
   refine⟨r,.ask ai ?_,by omega,by omega,d⟩
   rw[g];exact a
  | false =>
   refine⟨m,.ask ai ?_,eS _,by lia,e⟩
   rw[g];have j:lt (p.getD (m - 1) 0) (p.getD m 0)=true:=by
    rcases O.total _ _ ai.1 ai.2.1 ai.2.2 with q | q
    ·rw[g] at q;cases q
    ·exact q
   refine .ask ⟨ai.2.1,ai.1,λz=>ai.2.2 z.symm⟩ ?_
   rw[j];exact .ret _
theorem cS.perm {p q:Array Nat}(P:cS p n) (g:q.Perm p) (h:q.size=p.size) (f:Nat->Nat) (a:∀i,i < n->f i < n/\q.getD i 0=p.getD (f i) 0) (k:∀i j,i < n->j < n->f i=f j->i=j):cS q n:=by
 refine⟨h.trans P.size,λi d=>?_,λi j b c e=>?_,?_⟩
 ·rw[(a i d).2];exact P.lt _ (a i d).1
 ·rw[(a i b).2,(a j c).2] at e;exact k i j b c (P.inj _ _ (a i b).1 (a j c).1 e)
 ·exact (V7.mp g).trans P.pm
def wc (b:m<=p.size)(k):(V1 p 0 m).getD k 0=if k < m then p.getD (m - 1 - k) 0 else p.getD k 0:=by
 have h:=getElem?_mirror_all (i:=0) b k;unfold V1;split
 ·rename_i a;rw[if_pos ⟨qh _,a⟩] at h;rw[pz h];congr 1
  lia
 ·rename_i a;rw[if_neg (λz=>a z.2)] at h
  exact pz h
def Kv (P:cS p n)(a:m<=n):cS (V1 p 0 m) n:=by
 refine P.perm (by unfold V1;exact mirror_perm _ _ _ _) (by unfold V1;rw[mirror_size]) (λk=>if k < m then m - 1 - k else k) (λi b=>⟨by (try dsimp only);split <;> omega,?_⟩) λi j b hj e=>?_
 ·rw[wc (by rw[P.size];exact a)]
  (try dsimp only)
  split <;> rfl
 ·(try dsimp only at e)
  split at e <;> split at e <;> omega
def NF (P:cS p n)(a:m<=n)(h:Down lt p m):Up lt (V1 p 0 m) m:=by
 intro i j hij b;rw[wc (by rw[P.size];exact a),wc (by rw[P.size];exact a),if_pos (by omega),if_pos b]
 exact h _ _ (by omega) (by omega)
theorem vm (O:Ord lt n)(P:cS p n)(o:k < n)(g:Up lt p k):∀(f l r:Nat),l<=r->r<=k->r - l<=f->(∀i,i < l->lt (p.getD i 0) (p.getD k 0)=true)->(∀i,r<=i->i < k->lt (p.getD k 0) (p.getD i 0)=true) ->
  ∃m,Comes lt (okN n) (kas_place p k f l r) m/\m<=k/\(∀i,i < m->lt (p.getD i 0) (p.getD k 0)=true)/\(∀i,m<=i->i < k->lt (p.getD k 0) (p.getD i 0)=true)
 | 0,l,r,v,t,w,a,b=>⟨l,.ret l,by lia,a,λi s=>b i (by lia)⟩
 | f + 1,l,r,v,t,w,a,b=>by
  dsimp only[kas_place]
  by_cases h:l ≥ r
  ·rw[if_pos h];exact⟨l,.ret l,by lia,a,λi s=>b i (by lia)⟩
  ·rw[if_neg h];have x:(l + r) / 2 < r/\l<=(l + r) / 2:=by omega
   have ai:okN n (p.getD k 0) (p.getD ((l + r) / 2) 0):=P.ok o (by omega) (by omega)
   cases e:lt (p.getD k 0) (p.getD ((l + r) / 2) 0) with
   | true =>
    obtain⟨m,c,d⟩:=vm O P o g f l ((l + r) / 2) x.2 (by omega) (by omega) a (λi s u=>by
     by_cases z:i=(l + r) / 2
     ·rw[z];exact e
     ·exact O.trans _ _ _ e (g _ _ (by omega) u))
    refine⟨m,.ask ai ?_,d⟩;rw[e];exact c
   | false =>
    have j:lt (p.getD ((l + r) / 2) 0) (p.getD k 0)=true:=by
     rcases O.total _ _ ai.1 ai.2.1 ai.2.2 with q | q
     ·rw[e] at q;cases q
     ·exact q
    obtain⟨m,c,d⟩:=vm O P o g f ((l + r) / 2 + 1) r (by lia) t (by omega) (λi s=>by
     by_cases z:i=(l + r) / 2
     ·rw[z];exact j
     ·exact O.trans _ _ _ (g i ((l + r) / 2) (by omega) (by lia)) j) b
    refine⟨m,.ask ai ?_,d⟩;rw[e];exact c
def DL (b:k < p.size)(hl:l<=k)(i):(Zi p k (k - l)).getD i 0=if i=l then p.getD k 0 else if l < i/\i<=k then p.getD (i - 1) 0 else p.getD i 0:=by
 have h:=getElem?_bubble b (k - l) (by omega) i
 have e:k - (k - l)=l:=by omega
 rw[e] at h
 by_cases z:i=l
 ·rw[if_pos z] at h ⊢;exact pz h
 ·rw[if_neg z] at h ⊢
  by_cases a:l < i/\i<=k
  ·rw[if_pos a] at h ⊢;exact pz h
  ·rw[if_neg a] at h ⊢;exact pz h
theorem BA (O:Ord lt n):∀(f:Nat) (p:Array Nat) (k:Nat),cS p n->k + f=n->Up lt p k->∃q,Comes lt (okN n) (kas_bin f p k) q/\cS q n/\Up lt q n
 | 0,p,k,P,o,g=>⟨p,.ret p,P,by rw[<- o];exact g⟩
 | f + 1,p,k,P,o,g=>by
  obtain⟨l,c,t,a,b⟩:=vm O P (k:=k) (by omega) g k 0 k (qh _) (eS _) (by lia) (λi h=>by lia) (λi h hik=>by omega)
  have m:=DL (p:=p) (k:=k) (l:=l) (by rw[P.size];omega) t
  have u:cS (Zi p k (k - l)) n:=by
   refine P.perm (bubble_perm _ _ _) (bubble_size _ _ _) (λi=>if i=l then k else if l < i/\i<=k then i - 1 else i) (λi h=>⟨by (try dsimp only);split <;> (try split) <;> omega,?_⟩) λi j h v e=>?_
   ·rw[m]
    (try dsimp only)
    split
    ·rfl
    ·split <;> rfl
   ·(try dsimp only at e)
    split at e <;> split at e <;> (try split at e) <;> (try split at e) <;> lia
  have r:Up lt (Zi p k (k - l)) (k + 1):=by
   intro i j s v;simp only[m i,m j];split
   ·rw[if_neg (by omega),if_pos (by omega)]
    exact b (j - 1) (by omega) (by lia)
   ·split
    ·rw[if_neg (by omega),if_pos (by omega)]
     exact g _ _ (by omega) (by omega)
    ·split
     ·exact a i (by omega)
     ·split
      ·exact g _ _ (by lia) (by omega)
      ·exact g _ _ s (by lia)
  obtain⟨q,d,e⟩:=BA O f (Zi p k (k - l)) (k + 1) u (by lia) r
  exact⟨q,Comes.bind c d,e⟩
def wO:cS (TH (lp n)) n:=by
 have g:∀i,i < n->(TH (lp n)).getD i 0=i:=λi a=>by
  rw[lq];simp[a]
 refine⟨by simp,λi a=>by rw[g i a];exact a,λi j a b e=>by simp only[g i a,g j b] at e;exact e,by simp⟩
def AM (O:Ord lt n) (hn:1<=n):∃q,Comes lt (okN n) (kas_sort n) q/\cS q n/\Up lt q n:=by
 have P:=wO (n:=n);unfold kas_sort;obtain⟨m,a,b,c,d,e⟩:=sY O P (n - 1) 1 (eS _) (by omega) (λi j l v=>by omega)
 have h:∀(p:Array Nat) (m:Nat),cS p n->1<=m->m<=n->Up lt p m->∃q,Comes lt (okN n) (if m < n then kas_bin (n - max m 1) p (max m 1) else .ret p) q/\cS q n/\Up lt q n:=λp m P f g o=>by
  have e:max m 1=m:=by lia
  split
  ·rw[e];exact BA O (n - m) p m P (by lia) o
  ·exact⟨p,.ret p,P,by rw[<- (show m=n from by lia)];exact o⟩
 by_cases k:m=n
 ·obtain⟨q,f,g⟩:=h _ m P b (by lia) d
  refine⟨q,Comes.bind (a:=(m,TH (lp n))) (Comes.bind a ?_) f,g⟩;rw[if_pos (by simpa using k)]
  exact .ret _
 ·by_cases s:m > 1
  ·obtain⟨q,f,g⟩:=h _ m P b (by lia) d
   refine⟨q,Comes.bind (a:=(m,TH (lp n))) (Comes.bind a ?_) f,g⟩;rw[if_neg (by simpa using k),if_pos s]
   refine .ask (P.ok (by lia) (by omega) (by omega)) ?_
   rw[d 0 (m - 1) (by omega) (by omega)]
   exact .ret _
  ·have w:m=1:=by lia
   subst w;have x:=e (by omega)
   obtain⟨r,y,b1,c1,z⟩:=Ab O P (n - 2) 2 (by omega) (by omega) (λi j l v=>by
    have f:i=0:=by lia
    have g:j=1:=by lia
    rw[f,g];exact x)
   have t:=Kv (m:=r) P (by omega)
   obtain⟨u,A,b2,c2,B,_⟩:=sY O t (n - r) r (by lia) (by lia) (NF P (by omega) z)
   obtain⟨q,f,g⟩:=h _ u t (by lia) (by lia) B
   refine⟨q,Comes.bind (a:=(u,V1 (TH (lp n)) 0 r)) (Comes.bind a ?_) f,g⟩;rw[if_neg (by simpa using k),if_neg (by omega)]
   unfold kas_descPart;refine Comes.bind y ?_;rw[if_neg (by simp)]
   dsimp only[kas_tail3];exact Comes.bind A (.ret _)
end
end dB
end
section
namespace dB
open PySem PySem.W PyProof.Rows
theorem Comes.wp (d:∀i j,ok i j->∀C:Bool->cA->Prop,C (lt i j) s->b i j C s) :
  ∀{t:KasT c}{a:c},Comes lt ok t a->Q a s->t.kasWp b Q s
 | _,_,.ret a,q=>q
 | _,_,.ask h r,q=>d _ _ h _ (r.wp d q)
end dB
namespace L2
open PySem PySem.Spec PyProof.Rows
noncomputable def eU (h:m3) (L:cW):Heap:={ h with objs:=h.objs.extract 0 L }
def MJ (xs:Array a)(L b:Nat):(xs.extract 0 L)[b]? = if b < L then xs[b]? else none:=by
 rw[Array.getElem?_extract]
 by_cases h:b < L
 ·rw[if_pos h]
  by_cases h2:b < xs.size
  ·rw[if_pos (by omega),t9]
  ·rw[if_neg (by omega),UM (by omega)]
 ·rw[if_neg h,if_neg (by lia)]
def x4 (h) (L b):(eU h L).get? b=if b < L then h.get? b else none:=by
 unfold eU Heap.get?;dsimp only;rw[MJ]
 by_cases a:b < L
 ·rw[if_pos a,if_pos a]
 ·rw[if_neg a,if_neg a]
def B8 (e:(eU h L).get? b=some o):b < L/\h.get? b=some o:=by
 rw[x4] at e;split at e
 ·rename_i a;exact⟨a,e⟩
 ·cases e
def KW (a:b < L)(e:h.get? b=some o):(eU h L).get? b=some o:=by
 rw[x4,if_pos a];exact e
section
variable {X:Cx}{pins:List (cW×tm)}{σ:St}{H:Hp}{s:cA}
def Inv.wM (I:Inv X pins σ H s)(a:s.heap.Ns X.env.locals m):Fr (eU s.heap X.env.locals) X.env.locals s.heap m :=
 ⟨a,λb o e=>(B8 e).2,by show (s.heap.objs.extract 0 X.env.locals).size<=_;rw[Array.size_extract];exact pA (Zj _ _) (Nat.min_le_left _ _)⟩
def Inv.IA (I:Inv X pins σ H s)(j:∀(i:Nat) (x:eT) (v:V),X.N[i]? = some x->σ[i]? = some (some v)->cc X.env.scope x->∃u,RelV v u/\Look X.env s.heap m x u)(t:h'.Ns X.env.locals m)(keep:∀b o,b≠X.env.locals->s.heap.get? b=some o->h'.get? b=some o):Inv X pins σ H { s with heap:=h',toks:=tk }:=by
 have iT:=I.iT;have f:∀b o,X.cY.heap.get? b=some o->b≠X.env.locals:=λb o e=>gW (hQ (fj e) I.ok.above)
 have a:∀x c,X.env.cells.lookup x=some c->∀v,s.heap.IsCell c v->h'.IsCell c v:=λx c e v ⟨o,w,hd⟩=>⟨o,keep c o (iT x c e) w,hd⟩
 refine⟨I.ok,I.os,I.bare,⟨λb o e n g hx=>keep b o (f b o e) (I.base.keep b o e n g hx),λb o e n g hx=>?_,I.base.free,λb o e hx=>?_,I.base.iF,I.base.gZ,I.base.iH⟩,⟨m,t,λi x v y A B=>?_⟩,λx c e=>?_,I.free,I.gz,λp C=>?_,?_,I.len⟩
 ·obtain⟨D,q⟩:=I.base.slot b o e n g hx;exact⟨D,keep b _ (f b o e) q⟩
 ·obtain⟨h,q⟩:=I.base.there b o e hx;exact⟨h,keep b h (f b o e) q⟩
 ·obtain⟨u,r,l⟩:=j i x v y A B;refine⟨u,r,?_⟩
  rcases l with l | ⟨k,c,e,z⟩
  ·exact .inl l
  ·exact .inr ⟨k,c,e,a x c e _ z⟩
 ·obtain⟨v,z⟩:=I.cell x c e;exact⟨v,a x c e v z⟩
 ·obtain⟨e,n,ne,nf,d⟩:=I.pin p C;exact⟨keep p.1 p.2 ne e,n,ne,nf,d⟩
 ·exact I.ai.tracked λb u g e=>keep b u (λz=>g (z ▸ I.free)) e
def oN (F:Fr (eU h L) L h' m)(N:News (eU h L) L h' a)(sub:∀q∈kE (eU h L) h L,q∈a):∀b o,b≠L->h.get? b=some o->h'.get? b=some o:=λb o d e=>by
 by_cases c:b < L
 ·exact F.keep b o (KW c e)
 ·have f:(eU h L).get? b=none:=by
   cases q:(eU h L).get? b with
   | none=>rfl
   | some u=>exact absurd (B8 q).1 c
  exact (N _ (sub _ (rl d f e))).1
def BE {prog:hJ}{w:kq}{A:pl}{E:b8->cA->Prop}{s:cA}{a:cW}{vs:List b8}{n:Nat}{P:Fin->cA->Prop}(f:s.heap.get? a=some (z8 "list" vs.toArray n)) (q:vs.length < 2)
  (h:∀h' c,h'.get? a=some (z8 "list" vs.toArray c)->(∀b o,b≠a->s.heap.get? b=some o->h'.get? b=some o)->P (.done (.ret .none)) { s with heap:=h' }) :
  hE (hR prog w) A (T6.«list.sort» ⟨[.ref a],[]⟩) P E s:=by
 rw[list_sort_plain];have l:a < s.heap.objs.size:=fj f;refine bt (listItems_at f rfl ?_);refine bt (Zt f rfl ?_);obtain⟨k,j⟩:∃k,(s.heap.update a (Tx λ_=>#[])).get? a=some (z8 "list" #[] k) :=
  ⟨_,Y2 f (λ_=>#[])⟩
 refine bt (seqEpoch_at j rfl (bt (wpAny_newTuple (bt (VJ (nL ?_))) (by rw[qo];simp;omega))))
 generalize m:(((s.heap.update a (Tx λ_=>#[])).push (z8 "tuple" vs.toArray 0)).push (z8 "list" #[] 0))=g at *
 have d:g.get? a=some (z8 "list" #[] k):=by
  rw[<- m,Xw _ _ _ (by rw[Yk,UG];exact gW (Uy l)),
   Xw _ _ _ (by rw[UG];exact gW l)]
  exact j
 have kp:∀b o,b≠a->s.heap.get? b=some o->g.get? b=some o:=λb o i e=>by
  rw[<- m];refine el _ (el _ ?_);rw[sW _ _ (Ne.symm i)];exact e
 show hE (hR prog w) A _ P E { s with heap:=g }
 dsimp only;have p:vs.toArray.size < 2:=by simpa using q
 rw[if_pos p,if_pos p];refine bt (eR ?_);rw[StateT.run_pure];refine bt (eR ?_);dsimp only;refine bt (seqEpoch_at d rfl (bt (Zt d rfl ?_ (hsz2:=by simp[XY,YB];rw[qo];omega))))
 simp only[bne_self_eq_false,mA,if_false];refine eR ?_;have r:Array.map (λx=>x.2) (XY (YB general' (vs.toArray.zip vs.toArray) #[] 7 none))=vs.toArray:=by
  show Array.map (λx=>x.2) (vs.toArray.zip vs.toArray)=vs.toArray
  rw[List.zip_toArray,List.map_toArray,VQ (eS _)]
 rw[r];refine h _ _ (Y2 d (λ_=>vs.toArray)) λb o i e=>?_
 rw[sW _ _ (Ne.symm i)];exact kp b o i e
def Inv.nZ (I:Inv X pins σ H s)(t:∀(i:Nat) (x:eT) (v:V),X.N[i]? = some x->σ[i]? = some (some v)->cc X.env.scope x->∃u,RelV v u/\Look X.env s.heap m x u)(y:h'.Ns X.env.locals m)(keep:∀b o,b≠X.env.locals->s.heap.get? b=some o->h'.get? b=some o)(a:s.heap.get? D=none)(hex:∀b∈X.ex,∃o,s.heap.get? b=some o)(h:cB X.prog X.w (upd H D o) h' D o):Inv X pins σ (upd H D o) { s with heap:=h',toks:=tk }:=by
 have J:Inv X pins σ H { s with heap:=h',toks:=tk }:=I.IA t y keep
 have j:H D=none:=I.ai.dead a;have ne:∀b u,H b=some u->b≠D:=λb u q z=>by rw[z,j] at q;cases q
 have A:X.env.locals≠D:=λz=>by
  obtain⟨_,⟨oL,_,_,g,_⟩,_⟩:=I.loc;rw[z,a] at g;cases g
 refine⟨J.ok,J.os,J.bare,⟨J.base.keep,J.base.slot,λb f e n hx=>?_,J.base.there,λb xs e=>?_,λb f u e=>?_,λb B e=>?_⟩,J.loc,J.cell,?_,λx c e=>?_,λp k=>?_,λb u e=>?_,J.len⟩
 ·have z:b≠D:=λz=>by
   obtain⟨o',q⟩:=I.base.there b f e hx;rw[z,a] at q;cases q
  rw[aA z];exact J.base.free b f e n hx
 ·have q:=J.base.iF b xs e;rw[aA (ne b _ q)];exact q
 ·have q:=J.base.gZ b f u e;rw[aA (ne b _ q)];exact q
 ·obtain⟨more,q⟩:=J.base.iH b B e;exact⟨more,by rw[aA (ne b _ q)];exact q⟩
 ·rw[aA A];exact J.free
 ·obtain⟨v,oc,l,hd⟩:=I.cell x c e;rw[aA (λz=>by rw[z,a] at l;cases l)]
  exact J.gz x c e
 ·obtain⟨q,n,nl,nf,d⟩:=J.pin p k;have r:=(I.pin p k).1;exact⟨q,by rw[aA (λz=>by rw[z,a] at r;cases r)];exact n,nl,nf,d⟩
 ·by_cases z:b=D
  ·subst z;rw[bu] at e;cases e;exact h
  ·rw[aA z] at e;exact (J.ai b u e).ij (λc w' hc q=>q) (λc q=>by rw[aA (ne c _ q)];exact q) λc xs q=>by rw[aA (ne c _ q)];exact q
end
def fq {a:Type}{l:List a}{i:Nat}{d:a}(h:i < l.length):l.getD i d=l[i]:=by
 rw[n7,cm h];rfl
noncomputable def dR (fs:List eT) (i j:Nat):Bool:=decide ((fs.getD i n4).cps.toList < (fs.getD j n4).cps.toList)
def qq {a b:eT}(h:a.cps.toList=b.cps.toList):a=b:=by
 obtain⟨⟨a⟩⟩:=a;obtain⟨⟨b⟩⟩:=b;simp only at h;rw[h]
def Hg (nd:fs.Nodup):dB.Ord (dR fs) fs.length where
 trans:=λi j k c a=>decide_eq_true (Wk (of_decide_eq_true c) (of_decide_eq_true a))
 total:=λi j d f b=>by
  unfold dR;rw[fq d,fq f]
  by_cases h:fs[i].cps.toList < fs[j].cps.toList
  ·exact .inl (decide_eq_true h)
  ·refine .inr (decide_eq_true ?_)
   by_cases a:fs[j].cps.toList < fs[i].cps.toList
   ·exact a
   ·have e:=qq (UI (Ti.mp a) (Ti.mp h));exact absurd ((zb nd).mp e) b
 eG:=λi=>decide_eq_false (Vb _)
noncomputable def nF (K:gj) (H:Hp) (vs:List V) (fs:List eT):Prop:=vs.length=fs.length/\∀(i:Nat) (f:eT),fs[i]? = some f->∃a b,vs[i]? = some (.ref a)/\bb K H a b/\b[0]? = some (.str f)
noncomputable def Ordered (fs:List eT) (vs out:List V):Prop:=∃q:Array Nat,dB.cS q vs.length/\dB.Up (dR fs) q vs.length/\out=q.toList.map λi=>vs.getD i .aK
noncomputable def sy (K:gj):List V->Hp->VK->Prop:=λxs H Q=>∃p vs fs,xs=[.ref p]/\Rd H p (.lst vs)/\nF K H vs fs/\fs.Nodup/\vs.length < 64/\∀out,Ordered fs vs out->∀l,H l=none->Q (.ref l) (upd H l (.lst out))
theorem sR (r:aC vs its):∀(l:List Nat),(∀i∈l,i < vs.length)->aC (l.map λi=>vs.getD i .aK) (l.map λi=>its.getD i .none)
 | [],_=>.nil
 | i::l,h=>by
  have b:=h i eH;have a:i < its.length:=by rw[<- r.length];exact b
  refine .cons ?_ (sR r l λj d=>h j (ew _ d))
  obtain⟨u,c,e⟩:=r.get (cm b);show RelV (vs.getD i .aK) (its.getD i .none);simp only[fq b,fq a];rw[cm a] at c;cases c;exact e
def pV (P:dB.cS q n):∀i∈q.toList,i < n:=λi b=>by
 obtain⟨k,c,e⟩:=nk b;have a:k < q.size:=by simpa using c
 have:=P.lt k (by rw[<- P.size];exact a)
 rw[lq,j' a] at this;simp only[Ux] at this;have d:q[k]=i:=by simpa using e
 rw[<- d];exact this
theorem kat_tups (I:Inv X j q H s):∀{fs:List eT}{vs:List V}{its:List b8},nF X.K H vs fs->aC vs its ->
  ∃c:List b8,WO s.heap its c/\c.length=fs.length/\(∀v∈c,∃x t,v=Tn x t)/\∀(i:Nat) (f:eT),fs[i]? = some f->∃a o xs n t,its[i]? = some (.ref a)/\s.heap.get? a=some o/\o.data=.seq xs n/\xs[0]? = some (Tn f t)
 | [],[],_,h,r=>by
  cases r;exact⟨[],.nil,rfl,λv k=>by simp at k,λi f e=>by simp at e⟩
 | [],_::_,_,h,_=>by simp[nF] at h
 | _::_,[],_,h,_=>by simp[nF] at h
 | f::fs,v::vs,_,h,r=>by
  cases r with
  | cons w rs =>
   obtain⟨a,ws,y,A,B⟩:=h.2 0 f rfl;cases y;cases w;have h':nF X.K H vs fs:=⟨by simpa using h.1,λi g e=>by
    obtain⟨b,C,l,m,D⟩:=h.2 (i + 1) g (by simpa using e)
    exact⟨b,C,by simpa using l,m,D⟩⟩
   obtain⟨c,E,F,G,J⟩:=kat_tups I h' rs;obtain⟨its,L,⟨o,p,M,n,hd⟩,_⟩:=I.tuple A;obtain⟨u,N,O⟩:=L.get B;obtain⟨t,rfl⟩:=O;have d:its.toArray[0]? = some (Tn f t):=by simpa using N
   refine⟨Tn f t::c,.cons p M hd d E,by simp[F],λv k=>?_,λi g e=>?_⟩
   ·rcases cR.mp k with z | z
    ·exact⟨f,t,z⟩
    ·exact G v z
   ·cases i with
    | zero =>
     simp at e;subst e;exact⟨a,o,_,n,t,rfl,p,hd,d⟩
    | succ i =>
     obtain⟨b,P,xs,Q,t',l,m⟩:=J i g (by simpa using e)
     exact⟨b,P,xs,Q,t',by simpa using l,m⟩
theorem KatTups.keeps (k:∀b o xs n,o.data=.seq xs n->h.get? b=some o->h'.get? b=some o):∀{vs fs:List b8},WO h vs fs->WO h' vs fs
 | [],[],t=>t
 | [],_::_,t=>t.elim
 | _::_,[],t=>t.elim
 | _::_,_::_,⟨⟨a,o,xs,n,e,c,d,hd,r⟩,t⟩=>⟨⟨a,o,xs,n,e,k _ _ _ _ hd c,d,hd,r⟩,KatTups.keeps k t⟩
section
variable {X:Cx}
def zU (O':X.ex=[]):bO X (.builtin "sorted") (sy X.K):=by
 intro pins s σ H xs us Q I r h;obtain⟨p,vs,fs,rfl,rd,l,nd,h64,q⟩:=h;obtain⟨u,rfl,ru⟩:=r.one;cases ru;obtain⟨z,its,n,F,e⟩:=rd.ok I.ai;have d:=F.length;have hL:s.heap.IsList p its.toArray:=⟨_,e,rfl,n,rfl⟩;obtain⟨m,hn,hl⟩:=I.loc;have Pd:=hn;obtain⟨oL,Pe,Pf,k,U,_⟩:=Pd;have w:∀b∈X.ex,∃o,s.heap.get? b=some o:=λb hb=>by rw[O'] at hb;simp at hb
 by_cases h2:2<=its.length
 ·obtain⟨fv,kt,kl,ks,V⟩:=kat_tups I l F;have Fl:=I.wM hn;have Nl:News (eU s.heap X.env.locals) X.env.locals s.heap (kE (eU s.heap X.env.locals) s.heap X.env.locals):=uZ;refine Za Fl Nl hL h2 (by omega) λD e1 h' F' N' Y=>?_
  have kp:∀b o,b≠X.env.locals->s.heap.get? b=some o->h'.get? b=some o:=oN F' N' λq hq=>ew _ hq
  have A:∀b o xs n,o.data=.seq xs n->s.heap.get? b=some o->h'.get? b=some o:=λb o xs n hd ho=>kp b o (λz=>by rw[z,k] at ho;cases ho;rw[U] at hd;cases hd) ho
  have Pk:=KatTups.keeps A kt;refine W.kat_kind (T:=.type "str") Pk (by simp only[kl,<- l.1,d];omega) (λv hv=>?_) (by decide) ?_
  ·obtain⟨x,t,rfl⟩:=ks v hv;exact Xe rfl
  ·have O:=Hg nd;have Pl:its.length=fs.length:=by rw[<- d];exact l.1
   obtain⟨G,cq,pq,uq⟩:=dB.AM O (by lia)
   simp only[Pl];refine cq.wp (λi j ok C hC=>?_) ?_
   ·obtain⟨hi,hj,Z⟩:=ok;obtain⟨a,o,xs,n1,t1,J,a2,a3,L⟩:=V i _ (cm hi);obtain⟨b,o',ys,n2,t2,b1,b2,b3,M⟩:=V j _ (cm hj);have ea:its.getD i n6=.ref a:=by rw[n7,J];rfl
    have eb:its.getD j n6=.ref b:=by rw[n7,b1];rfl
    show hE _ _ (keyLt' _ (its.getD i n6) (its.getD j n6)) C _ _;rw[ea,eb];refine W.kat_lt (A _ _ _ _ a3 a2) a3 (A _ _ _ _ b3 b2) b3 ?_;obtain⟨N,P,ex⟩:∃N P,xs.toList=N::P:=by
     cases hx:xs.toList with
     | nil =>
      rw[<- k7,hx] at L;cases L
     | cons N P=>exact⟨N,P,rfl⟩
    obtain⟨R,S,ey⟩:∃R S,ys.toList=R::S:=by
     cases hy:ys.toList with
     | nil =>
      rw[<- k7,hy] at M;cases M
     | cons R S=>exact⟨R,S,rfl⟩
    rw[<- k7,ex] at L;rw[<- k7,ey] at M;cases L;cases M;simp only[ex,ey,Vp];have Pq:fs[i]≠fs[j]:=λz=>Z ((zb nd).mp z)
    refine W.kat_cons (U6 ?_);simp only[decide_eq_false Pq];refine W.kat_no (oneLt_str ?_);have:dR fs i j=decide (fs[i].cps.toList < fs[j].cps.toList):=by unfold dR;rw[fq hi,fq hj]
    simp only[<- this];exact hC
   ·have f:s.heap.get? D=none:=by
     cases y:s.heap.get? D with
     | none=>rfl
     | some o =>
      have J:=N' (D,z8 "list" #[] e1) eH;exact absurd (Y _ (rl J.2.1 J.2.2 y)) (qp _)
    refine Xf F' N' (.head λp hp=>gW (Y p hp)) λbe c yq O4=>?_
    have B:∀b o,b≠X.env.locals->s.heap.get? b=some o->be.get? b=some o:=oN yq O4 λq hq=>ew _ hq
    have hD:be.get? D=some (W.listOf (TH (G.toList.map λi=>its.getD i n6)) c):=(O4 _ eH).1
    have E:dB.cS G vs.length:=by rw[l.1];exact pq
    refine⟨.ref D,upd H D (.lst (G.toList.map λi=>vs.getD i .aK)),I.nZ (tk:=s.toks) hl yq.ns B f w ?_,rfl,q _ ⟨G,E,by rw[l.1];exact uq,rfl⟩ D (I.ai.dead f)⟩
    refine⟨?_,_,c,sR F _ (pV E),hD⟩;simp only[a8,m5,E.size];exact z
 ·refine Tp XX Xy XA (XB _) ?_;unfold T6.«sorted»
  refine bt (m:=Yc "sorted" 1 1 _) (eR (bt (collect_list hL (bt (VJ ?_ (by rw[qo];omega))) (by rw[qo];omega))))
  generalize hg:((s.heap.push (z8 "list" #[] 0)).update s.heap.objs.size (Tx (· ++ its.toArray)))=g;have Pu:g.objs.size=s.heap.objs.size + 1:=by simp only[<- hg,UG,Yk]
  have gk:∀b o,s.heap.get? b=some o->(g.push (z8 "list" its.toArray 0)).get? b=some o:=λb o q=>by
   have lt:=fj q;refine el _ ?_;rw[<- hg,sW _ _ (US lt)];exact el _ q
  have gD:(g.push (z8 "list" its.toArray 0)).get? g.objs.size=some (z8 "list" its.toArray 0):=hB _ rfl;refine bt (nL (ql Vt ⟨_,gD,rfl⟩ Vj (BE (s:={ s with heap:=g.push (z8 "list" its.toArray 0) }) gD (by lia) λh' c hD kp=>⟨_,rfl,eR ⟨_,rfl,?_⟩⟩) (Vv _)))
  have f:s.heap.get? g.objs.size=none:=by
   cases y:s.heap.get? g.objs.size with
   | none=>rfl
   | some o =>
    have:=fj y;rw[Pu] at this;exact absurd this (Zk.mpr (Uz _))
  have B:∀b o,b≠X.env.locals->s.heap.get? b=some o->h'.get? b=some o:=λb o _ q=>kp b o (λz=>by simp only[z,f] at q;cases q) (gk b o q)
  have Py:h'.Ns X.env.locals m:=⟨oL,Pe,Pf,kp _ _ (λz=>by simp only[z,f] at k;cases k) (gk _ _ k),U,by assumption⟩
  have one:Ordered fs vs vs:=by
   refine⟨(lp vs.length).toArray,dB.wO,λi j Z hj=>by lia,?_⟩
   match vs,d with
   | [],_=>rfl
   | [v],_=>rfl
   | _::_::_,d=>exact absurd h2 (by simp at d;lia)
  refine⟨.ref g.objs.size,upd H g.objs.size (.lst vs),I.nZ (tk:=s.toks) hl Py B f w ⟨z,its,c,F,hD⟩,rfl,q vs one _ (I.ai.dead f)⟩
end
noncomputable def nO (c:List eT):Prop:=c.Pairwise λa b=>¬(b.cps.toList < a.cps.toList)
def ur (h:UQ vs g)(d:xs.Perm (pairsOf vs))(k:SortedToK strKind xs (pairsOf vs).size) :
  ∃a,UQ (xs.map (·.2)).toList a/\a.Perm g/\nO a:=by
 obtain⟨a,e,u,_⟩:=sorted_out_str h d k;refine⟨a,e,u,?_⟩;have hsz:xs.size=(pairsOf vs).size:=d.size_eq;have f:∀p,p∈xs.toList->p.1=p.2/\p.1∈vs:=λp l=>mem_zip_self (by
  have v:xs.toList.Perm (vs.zip vs):=by rw[<- pairsOf_toList];exact V7.mp d
  exact v.mem_iff.mp l)
 have b:a.length=xs.size:=by
  have:=e.strs;rw[<- this];simp
 have get:∀(i:Nat) (c:i < a.length),KK strKind xs i=a[i].cps.toList:=λi c=>by
  have hx:i < xs.size:=by rw[<- b];exact c
  have w:=e.strs;have m:=f xs[i] (by simp)
  obtain⟨y,t,n⟩:=h.all _ m.2;have x:xs[i]=(Tn y t,xs[i].2):=by rw[<- n]
  rw[KK_str hx x];have o:a[i]? = some y:=by
   simp only[<- w,cn,k7,Array.getElem?_map,j' hx];simp only[px];rw[<- m.1,n];rfl
  rw[cm c] at o;cases o;rfl
 unfold nO;rw[lb];intro i j c r s;have q:=k i j (VG s) (by simp only[<- hsz,<- b];exact r)
 rw[get i c,get j r] at q;exact of_decide_eq_false q
noncomputable def rF:List V->Hp->VK->Prop:=λxs H Q=>∃p kvs b,xs=[.ref p]/\Rd H p (.dK kvs)/\kvs.map (·.1)=b.map nE/\kvs.length < 64/\∀a,a.Perm b->nO a->∀l,H l=none->Q (.ref l) (upd H l (.lst (a.map V.str)))
theorem qy:∀{a:List b8}{ys:List eT},UQ a ys->aC (ys.map V.str) a
 | _,_,.nil=>.nil
 | _,_,.cons y t r=>.cons ⟨t,rfl⟩ (qy r)
theorem Aw:∀{a:List eT}{vs:List b8},vs.length=a.length->(∀(j:Nat) (u:b8),vs[j]? = some u->∃y,a[j]? = some y/\i8 (nE y) u=true)->UQ vs a
 | [],[],_,_=>.nil
 | [],_::_,h,_=>by simp at h
 | _::_,[],h,_=>by simp at h
 | y::a,v::vs,h,k=>by
  obtain⟨y',b,c⟩:=k 0 v rfl;cases b
  rcases iu c with⟨i,t,z,_⟩ | ⟨x,t,z,d⟩
  ·cases z
  ·cases z;rw[d];exact .cons _ _ (Aw (by simpa using h) λj u e=>by simpa using k (j + 1) u (by simpa using e))
section
variable {X:Cx}
def zx (L:X.ex=[]) (hc:X.calm=true):bO X (.builtin "sorted") rF:=by
 intro pins s σ H xs us Q I r h;obtain⟨p,kvs,E,rfl,rd,M,N,q⟩:=h;obtain⟨u,rfl,ru⟩:=r.one;cases ru;obtain⟨z,lo,O,n,dd⟩:=kz I.ai rd;obtain⟨ep,P⟩:=dd.dictAt;obtain⟨m,hn,hl⟩:=I.loc;have F:∀b∈X.ex,∃o,s.heap.get? b=some o:=λb a=>by rw[L] at a;simp at a
 have Fl:=I.wM hn;have Nl:News (eU s.heap X.env.locals) X.env.locals s.heap (kE (eU s.heap X.env.locals) s.heap X.env.locals):=uZ;have t:=n.length;have R:=n.keys;have v:E.length=kvs.length:=by
  have:=congrArg List.length M;simpa using this.symm
 refine W.kdu_sorted (W.kdl_dict (knd:=cG X.prog X.w) (kvs:=O) (ep:=ep) lo) (I.ok.hd hc) Fl Nl P (by rw[qo];lia) λB h' tk vs S G T A hv=>?_
 have J:UQ vs E:=Aw (by simp only[A,v,t]) λj u e=>by
  obtain⟨k,x,e1,e2⟩:=hv j u e;have d:(O.map (·.1))[j]? = some k:=by rw[cn,e1];rfl
  simp only[<- R,M,cn] at d;cases U:E[j]? with
  | none=>rw[U] at d;cases d
  | some y =>
   rw[U] at d;cases d;exact⟨y,rfl,e2⟩
 have K:=(G _ eH).1;have f:=(G _ eH).2;have l:vs.length < 64:=by simp only[A,<- t];exact N
 refine ql Vt ⟨_,K,rfl⟩ Vj (Y0 W4 K J.keysOf (λv₁ v₂ rest e=>Xz (by rw[<- e];exact J)) l λg a1 a2=>⟨_,rfl,?_⟩) (Vv _)
 obtain⟨C,b1,Y,b3⟩:=ur J a1 a2;obtain⟨c,hD⟩:=Zs (out:=(XY g).map (·.2)) K;have i:s.heap.get? B=none:=by
  cases y:s.heap.get? B with
  | none=>rfl
  | some o=>exact absurd (T _ (rl f.1 f.2 y)) (qp _)
 have kp:∀b o,b≠X.env.locals->s.heap.get? b=some o->h'.get? b=some o:=oN S G λq hq=>ew _ hq
 have D:∀b o,b≠B->h'.get? b=some o->(sortedHeap h' B vs ((XY g).map (·.2))).get? b=some o:=λb o a e=>(Zf a (fj e)).trans e
 have Z:(sortedHeap h' B vs ((XY g).map (·.2))).Ns X.env.locals m:=by
  obtain⟨oL,es,be,ho,r⟩:=S.ns;exact⟨oL,es,be,D _ _ (λz=>f.1 z.symm) ho,r⟩
 refine⟨.ref B,upd H B (.lst (C.map V.str)),I.nZ (tk:=tk) hl Z (λb o a e=>D b o (λz=>by simp only[z,i] at e;cases e) (kp b o a e)) i F ⟨?_,_,c,qy b1,by simp only[hD,U9]⟩,rfl,q C Y b3 B (I.ai.dead i)⟩
 simp only[a8,Y.length_eq,v];exact z
end
end L2
end
section
namespace DV
open PySem PySem.Spec PyProof.Rows L2
theorem rR {f:Type}{R:f->f->Prop}(d:∀a b,R a b->R b a->a=b):∀{l c:List f},l.Perm c->l.Pairwise R->c.Pairwise R->l=c
 | [],c,p,_,_=>(List.Perm.eq_nil p.symm).symm
 | a::l,[],p,_,_=>by cases p.length_eq
 | a::l,b::c,p,h,h'=>by
  rw[Tw] at h h';have e:a=b:=by
   have g:a∈b::c:=p.mem_iff.mp eH;have i:b∈a::l:=p.mem_iff.mpr eH
   rcases cR.mp g with z | z
   ·exact z
   ·rcases cR.mp i with y | y
    ·exact y.symm
    ·exact d a b (h.1 b y) (h'.1 a z)
  subst e;rw[rR d (List.Perm.cons_inv p) h.2 h'.2]
noncomputable def bX (a b:eT):Bool:=!decide (b.cps.toList < a.cps.toList)
noncomputable def bU (a:List eT):List Str:=a.mergeSort bX
def jW:bX a b=true ↔ ¬(b.cps.toList < a.cps.toList):=by unfold bX;simp
def sP (a b c) (d:bX a b=true) (e:bX b c=true):bX a c=true:=by
 rw[jW] at *;exact λz=>d (List.lt_of_le_of_lt (Ti.mp e) z)
def uE (a b):(bX a b || bX b a)=true:=by
 unfold bX
 by_cases h:b.cps.toList < a.cps.toList
 ·have:¬a.cps.toList < b.cps.toList:=λz=>Vb _ (Wk h z)
  simp[this]
 ·simp[h]
def AI (a):nO (bU a):=by
 have:=Tz (le:=bX) sP uE a;exact this.imp λh=>jW.mp h
def qQ (p:c.Perm d)(h:nO c):c=bU d :=
 rR (R:=λa b:eT=>¬(b.cps.toList < a.cps.toList)) (λa b e f=>qq (UI (Ti.mp e) (Ti.mp f))) (p.trans (gp d bX).symm) h (AI d)
noncomputable def jG:Dat->Option eT
 | .tup (.str x::_)=>some x
 | _=>none
noncomputable def firstsD:List Dat->Option (List eT)
 | []=>some []
 | d::r=>(jG d).bind λx=>(firstsD r).map (x::·)
noncomputable def gv (d:Dat):Str:=(jG d).getD n4
noncomputable def dw (a b:Dat):Bool:=bX (gv a) (gv b)
noncomputable def gy (ds:List Dat):List Dat:=ds.mergeSort dw
theorem Co:∀{ds:List Dat}{fs:List eT},firstsD ds=some fs->fs=ds.map gv/\∀d∈ds,∃x,jG d=some x
 | [],_,e=>by cases e;exact⟨rfl,λd h=>by simp at h⟩
 | d::r,_,e=>by
  have e:(jG d).bind (λx=>(firstsD r).map (x::·))=some _:=e
  cases a:jG d with
  | none=>rw[a] at e;cases e
  | some x =>
   rw[a] at e;simp only[a5] at e;cases b:firstsD r with
   | none=>rw[b] at e;cases e
   | some ys =>
    rw[b] at e;cases e;obtain⟨c,f⟩:=Co b;refine⟨by simp[gv,a,c],λd' hd=>?_⟩
    rcases cR.mp hd with z | z
    ·exact⟨x,by simp only[z,a]⟩
    ·exact f d' z
theorem zH {K:gj}{H j:Hp}(s:af j H):∀{ds:List Dat}{vs:List V}{fs:List eT},firstsD ds=some fs->ay K j ds vs->nF K H vs fs
 | [],_,_,e,r=>by
  cases e;rw[show _=[] from r]
  exact⟨rfl,λi f e=>by simp at e⟩
 | d::ds,_,_,e,⟨v,vr,l,m,rs⟩=>by
  have e:(jG d).bind (λx=>(firstsD ds).map (x::·))=some _:=e
  cases b:jG d with
  | none=>rw[b] at e;cases e
  | some x =>
   rw[b] at e;simp only[a5] at e;cases c:firstsD ds with
   | none=>rw[c] at e;cases e
   | some ys =>
    rw[c] at e;cases e;obtain⟨n,o⟩:=zH s c rs;simp only[l];refine⟨by simp[n],λi f g=>?_⟩
    cases i with
    | zero =>
     simp at g;subst g;unfold jG at b;split at b
     ·cases b;obtain⟨p,h,rfl,q,w1,wr,t,k,_⟩:=m;cases k;exact⟨p,h,rfl,bb.mono s q,by rw[t];rfl⟩
     ·cases b
    | succ i =>
     obtain⟨a,h,u,w⟩:=o i f (by simpa using g)
     exact⟨a,h,by simpa using u,w⟩
theorem ay.pick {K:gj}{H:Hp}{ds:List Dat}{vs:List V}(r:ay K H ds vs):∀(l:List Nat),(∀i∈l,i < vs.length)->ay K H (l.map λi=>ds.getD i .aK) (l.map λi=>vs.getD i .aK)
 | [],_=>rfl
 | i::l,h=>by
  have b:=h i eH;have a:i < ds.length:=by rw[<- r.length];exact b
  obtain⟨v,c,d⟩:=r.get (cm a);refine⟨vs.getD i .aK,_,rfl,?_,ay.pick r l λj e=>h j (ew _ e)⟩
  show Rep K H (ds.getD i .aK) (vs.getD i .aK);simp only[n7,n7,c,cm a];exact d
def KC (a b c) (d:dw a b=true) (e:dw b c=true):dw a c=true:=sP _ _ _ d e
def Ka (a b):(dw a b || dw b a)=true:=uE _ _
def xW {a:Type}(l:List a) (d:a):(lp l.length).map (λi=>l.getD i d)=l:=by
 apply XP (by simp)
 intro i h1 b;rw[TZ,List.getElem_range,fq b]
def Jo (nd:(ds.map gv).Nodup)(P:dB.cS q ds.length)(U:dB.Up (dR (ds.map gv)) q ds.length):(q.toList.map λi=>ds.getD i .aK)=gy ds:=by
 have pm:(q.toList.map λi=>ds.getD i .aK).Perm ds:=by
  have:=P.pm.map (λi=>ds.getD i .aK)
  rw[xW] at this;exact this
 have m:∀i,i < ds.length->gv (ds.getD i .aK)=(ds.map gv).getD i n4:=λi c=>by
  rw[fq c,fq (by simpa using c)]
  simp
 have g:(q.toList.map λi=>ds.getD i .aK).Pairwise (λa b=>dw a b=true/\a∈ds/\b∈ds):=by
  rw[lb];intro i j c d n;have o:i < ds.length:=by rw[<- P.size];simpa using c
  have f:j < ds.length:=by rw[<- P.size];simpa using d
  refine⟨?_,pm.mem_iff.mp (Tq _),pm.mem_iff.mp (Tq _)⟩;have u:=U i j n f;have t:q.toList[i]'(by simpa using c)=q.getD i 0:=by
   simp only[lq,j' (by simpa using c)]
   simp
  have v:q.toList[j]'(by simpa using d)=q.getD j 0:=by
   simp only[lq,j' (by simpa using d)]
   simp
  simp only[TZ,TZ,t,v];unfold dw;rw[m _ (P.lt i o),m _ (P.lt j f),jW];unfold dR at u;have u:=of_decide_eq_true u;exact λz=>Vb _ (Wk u z)
 have k:(gy ds).Pairwise (λa b=>dw a b=true/\a∈ds/\b∈ds):=by
  have h:=Tz (le:=dw) KC Ka ds;refine Rr (λw x p=>⟨p,?_,?_⟩) h
  ·exact (gp ds dw).mem_iff.mp w
  ·exact (gp ds dw).mem_iff.mp x
 refine rR (R:=λa b:Dat=>dw a b=true/\a∈ds/\b∈ds) (λa b l y=>?_) (pm.trans (gp ds dw).symm) g k
 have e:gv a=gv b:=qq (UI (Ti.mp (jW.mp l.1)) (Ti.mp (jW.mp y.1)));obtain⟨i,c,r⟩:=nk l.2.1;obtain⟨j,d,s⟩:=nk l.2.2;have A:(ds.map gv)[i]'(by simpa using c)=(ds.map gv)[j]'(by simpa using d):=by simp[r,s,e]
 have B:=(zb nd).mp A;subst B;simp only[<- r,s]
noncomputable def gI:List Dat->Option Res
 | [.bN a]=>if a.length < 64 then some (.own (.lst ((bU (a.map (·.1))).map .str))) else none
 | [.lst ds]=>(firstsD ds).bind λfs=>if fs.Nodup/\ds.length < 64 then some (.own (.lst (gy ds))) else none
 | _=>none
theorem rW {K:gj}{H:Hp}:∀{a:List (eT×Dat)}{kvs:List (Key×V)},bH K H a kvs->kvs.map (·.1)=(a.map (·.1)).map nE
 | [],_,h=>by rw[show _=[] from h];rfl
 | (k,d)::a,_,⟨v,r,e,q,t⟩=>by rw[e];simp[rW t]
theorem pT {K:gj}{H:Hp}:∀(a:List eT),ay K H (a.map .str) (a.map V.str)
 | []=>rfl
 | x::r=>⟨.str x,_,rfl,rfl,pT r⟩
section
variable {X:Cx}{pos:qe}{e:gs}
def sM:CD X (λxs H Q=>sy X.K xs H Q\/rF xs H Q) gI:=by
 intro H0 ps Z σ H h vs ds o Q a S r k;unfold gI at a;split at a
 ·rename_i u;split at a
  ·rename_i c;cases a;obtain⟨v,w,rfl,⟨p,kvs,rfl,x,j⟩,g⟩:=r;cases g;refine .inr ⟨p,kvs,u.map (·.1),rfl,Rd.of (S.sub _ _ x),rW j,by rw[bH.length j];exact c,λss' pm m l b=>?_⟩
   rw[qQ pm m];exact k (.ref l) _ h (S.made b) (af.refl _) ⟨l,rfl,⟨_,bu,pT _,S.dy b⟩,(S.bM b).2,(S.bM b).1,S.d6 b⟩
  ·cases a
 ·rename_i n;cases f:firstsD n with
  | none=>rw[f] at a;cases a
  | some fs =>
   rw[f] at a;simp only[a5] at a;split at a
   ·rename_i c;cases a;obtain⟨v,w,rfl,⟨p,y,rfl,z,rs⟩,g⟩:=r;cases g;have d:=rs.length;refine .inl ⟨p,y,fs,rfl,Rd.mono S.sub z,zH S.sub f rs,c.1,by rw[d];exact c.2,λout ⟨q,P,U,A⟩ l b=>?_⟩
    obtain⟨s,_⟩:=Co f;subst s;simp only[d] at P U;have B:=Jo c.1 P U;subst A;have t:=ay.pick rs q.toList (λi C=>by rw[d];exact pV P i C)
    rw[B] at t;exact k (.ref l) _ h (S.made b) (af.refl _) ⟨l,rfl,⟨_,bu,t,S.dy b⟩,(S.bM b).2,(S.bM b).1,S.d6 b⟩
   ·cases a
 ·cases a
def Ak (a:X.ex=[])(b:X.calm=true)(c:Gl X "sorted")(d:X.mg "sorted"=none)(f:bK X e [])(g:DA X [e] fa):DE X (.Call (.Name "sorted" p) [e] [] pos) (cJ gI fa) :=
 kr (bO.or (zU a) (zx a b)) sM c d (by decide +kernel) g (by decide) (by decide) f rfl
end
structure kP (x:eT):Prop where
 mark:True
section
variable {X:Cx}{pos:qe}{e:gs}
def IK (hl:kP x)(hnd:N.Nodup)(hXN:X.N=N)(hkb:(fJ scope).findIdx? (· == x)=some kb)(hj:N.findIdx? (· == x)=some j)(h:X.calm=true)(B:gR X.env.scope scope)(f:fH X.N (fJ scope) scope (mV N scope)=true)(i:∀x,n5 iter X.env x=pure x)(k:dn X d iter fi)(l:∀(b:List (eT×cW)) (C:cW) (a:cA) (H:Hp) (c:List cW),DG (bT X (fJ scope) scope b C a H c) d g)(m:∀(b:List (eT×cW)) (C:cW) (a:cA) (H:Hp) (c:List cW),jX (bT X (fJ scope) scope b C a H c) ifs fc)(n:∀(b:List (eT×cW)) (C:cW) (a:cA) (H:Hp) (c:List cW),DD (bT X (fJ scope) scope b C a H c) elt fe):DE X (.ListComp elt [⟨d,iter,ifs,0⟩] scope pos) (dN (mV N scope) (some (kb,j)) fi g fc fe):=EH kb j h B f k l m n i
end
noncomputable def gu:List Dat->List Dat->Bool
 | [],[]=>true
 | x::xs,y::ys=>cw x y && gu xs ys
 | _,_=>false
def kh (i j):cw (.int i) (.int j)=decide (i=j):=by
 show ua (.int i) (.int j)=_;rw[ua]
 by_cases h:i=j <;> simp[h]
def ig (i j):cw (.str i) (.str j)=decide (i=j):=by
 show ua (.str i) (.str j)=_;rw[ua]
 by_cases h:i=j <;> simp[h]
theorem wA:∀xs ys:List Dat,Us (bY xs) (bY ys)=gu xs ys
 | [],[]=>by simp only[bY,Us];rfl
 | x::xs,[]=>by simp only[bY,bY,Us];rfl
 | [],y::ys=>by simp only[bY,bY,Us];rfl
 | x::xs,y::ys=>by
  simp only[bY,bY,Us,wA xs ys];rfl
def nX (xs ys):cw (.tup xs) (.tup ys)=gu xs ys:=by
 show ua (.tuple (bY xs)) (.tuple (bY ys))=_;rw[ua,wA]
def kZ (xs ys):cw (.lst xs) (.lst ys)=gu xs ys:=by
 show ua (.list (bY xs)) (.list (bY ys))=_;rw[ua,wA]
noncomputable def eh:Dat->Bool
 | .aK=>true
 | .bl _=>true
 | .int _=>true
 | .str x=>pe x
 | _=>false
noncomputable def iA:Dat->Bool
 | .tup ds=>ds.all eh
 | .lst ds=>ds.all eh
 | d=>eh d
def mI (h:eh d=true):fB d=true/\(toPy d).canLay0=true/\(toPy d).depth=0:=by
 cases d <;> first | cases h | skip
 ·exact⟨rfl,by rw[toPy,ub],by rw[toPy,PyData.depth] <;> intros <;> simp⟩
 ·exact⟨rfl,by rw[toPy,ub],by rw[toPy,PyData.depth] <;> intros <;> simp⟩
 ·exact⟨rfl,by rw[toPy,ub],by rw[toPy,PyData.depth] <;> intros <;> simp⟩
 ·exact⟨rfl,by rw[toPy,ub];exact h,by rw[toPy,PyData.depth] <;> intros <;> simp⟩
theorem nU {n:Nat}{p:Dat->Bool}(e:∀d,p d=true->fB d=true/\(toPy d).canLay0=true/\(toPy d).depth<=n):∀{ds:List Dat},ds.all p=true->gY ds=true/\Um (bY ds)=true/\VN (bY ds)<=n
 | [],_=>⟨rfl,by rw[bY,Um],by simp only[bY,VN];lia⟩
 | d::ds,h=>by
  simp only[UA,dV] at h;obtain⟨a,b,c⟩:=e d h.1;obtain⟨f,g,c'⟩:=nU e h.2;refine⟨?_,?_,?_⟩
  ·simp only[gY,a,f];rfl
  ·simp only[bY,Um,b,g];rfl
  ·simp only[bY,VN];lia
theorem vw (h:iA d=true):fB d=true/\(toPy d).canLay0=true/\(toPy d).depth<=1:=by
 have k:=@nU 0 eh λd h=>⟨(mI h).1,(mI h).2.1,YR (mI h).2.2⟩
 have l:eh d=true->fB d=true/\(toPy d).canLay0=true/\(toPy d).depth<=1:=λh=>⟨(mI h).1,(mI h).2.1,by rw[(mI h).2.2];omega⟩
 cases d with
 | tup ds =>
  obtain⟨a,b,c⟩:=k (ds:=ds) h;exact⟨by simp only[fB];exact a,by simp only[toPy,ub];exact b,by simp only[toPy,PyData.depth];omega⟩
 | lst ds =>
  obtain⟨a,b,c⟩:=k (ds:=ds) h;exact⟨by simp only[fB];exact a,by simp only[toPy,ub];exact b,by simp only[toPy,PyData.depth];omega⟩
 | _=>exact l h
def j9 (h:iA d=true):bB d=true:=by
 obtain⟨a,b,c⟩:=vw h;dsimp only[bB,Wp];simp only[a,b];simp
 lia
def qH (h:ds.all iA=true):bB (.lst ds)=true:=by
 obtain⟨a,b,c⟩:=@nU 1 iA (λd h=>vw h) ds h
 dsimp only[bB,Wp];simp only[fB,toPy,ub,PyData.depth,a,b];simp
 lia
def kW:bB (.int i)=true:=j9 rfl
def fK (h:pe x=true):bB (.str x)=true:=j9 h
def zC (h:ds.all eh=true):bB (.tup ds)=true:=j9 h
theorem rK (d):∀ds:List Dat,inD d ds=ds.any λy=>cw y d
 | []=>by unfold inD;simp only[bY];rfl
 | y::r=>by
  have:=rK d r;unfold inD at this ⊢;simp only[bY,I9,I9,this];rfl
noncomputable def after (g:SF):Out->Option Out
 | .next Z=>g Z
 | o=>some o
noncomputable def pick (b:Bool)(x y:a):a:=if b=true then x else y
section
variable {f g:DF}{e:EF}{c c':BF}{s s':SF}{a:AF}{Z Z1 Z2 Z3:DS}{d d':Dat}{ds:List Dat}{r:Res}{b b':Bool}{o o1:Out}{oo:Option Out}
theorem v_after {g:SF}:(lU s g Z)=(s Z).bind (after g):=by
 unfold lU;cases s Z with
 | none=>rfl
 | some o=>cases o <;> rfl
def iY {g:SF}(h:s Z=some o1) (h':after g o1=oo):lU s g Z=oo:=by rw[v_after,h];exact h'
def iG {g:SF}(h:g Z=oo):after g (.next Z)=oo:=h
def Nw {g:SF}{i:Res}{j:DS}(h:r=i) (h':Z=j):after g (.ret r Z)=some (.ret i j):=by rw[<- h,<- h'];rfl
def M7:(Res.dat d).val=d:=rfl
def Mp:(Res.own d).val=d:=rfl
def v7 (h:c Z=some (b,Z1)) (h':pick b (s Z1) (s' Z1)=oo):jv c s s' Z=oo:=by unfold jv;rw[h];exact h'
def ui (j:b=true)(h:x=z):pick b x y=z:=by subst j;exact h
def sZ (j:b=false)(h:y=z):pick b x y=z:=by subst j;exact h
def v_and (h:c Z=some (b,Z1)) (h':pick b (c' Z1) (some (false,Z1))=some (b',Z2)):m7 c c' Z=some (b',Z2):=by unfold m7;rw[h];exact h'
def hV (h:c Z=some (b,Z1)) (h':c' Z1=some (b',Z1)):m7 c c' Z=some (b && b',Z1):=by
 unfold m7;rw[h];cases b
 ·rfl
 ·exact h'
def v_or (h:c Z=some (b,Z1)) (h':pick b (some (true,Z1)) (c' Z1)=some (b',Z2)):m9 c c' Z=some (b',Z2):=by unfold m9;rw[h];exact h'
def ng (h:c Z=some (b,Z1)) (h':c' Z1=some (b',Z1)):m9 c c' Z=some (b || b',Z1):=by
 unfold m9;rw[h];cases b
 ·exact h'
 ·rfl
def lj (h:c Z=some (b,Z1)):oG c Z=some (!b,Z1):=by unfold oG;rw[h];rfl
def fV (h:f Z=some (d,Z1)) (h':jy d=some b):mz f Z=some (b,Z1):=by unfold mz;rw[h];show (jy d).map _=_;rw[h'];rfl
def bq (h:e Z=some (.dat (.bl b),Z1)):eI e Z=some (b,Z1):=by unfold eI;rw[h];rfl
def tU (h:f Z=some (.bl b,Z1)) (h':g Z1=some (.bl b',Z1)):r9 f g Z=some (.bl (b && b'),Z1):=by
 unfold r9;rw[h];cases b
 ·rfl
 ·exact h'
def Cc (h:f Z=some (.bl b,Z1)) (h':g Z1=some (.bl b',Z1)):rf f g Z=some (.bl (b || b'),Z1):=by
 unfold rf;rw[h];cases b
 ·exact h'
 ·rfl
def v_res (h:f Z=some (d,Z1)):og f Z=some (.dat d,Z1):=by unfold og;rw[h];rfl
def rB (h:e Z=some (.own d,Z1)):fM e Z=some (d,Z1):=by unfold fM;rw[h];rfl
def ak (h:e Z=some (r,Z1)) (h':r.val=d):fM e Z=some (d,Z1):=by unfold fM;rw[h,<- h'];rfl
def au (h:f Z=some (d,Z1))(i:g Z1=some (d',Z2))(j:op d d'=some r):cg op f g Z=some (r,Z2):=by
 unfold cg;rw[h];show (g Z1).bind _=_;rw[i];show (op d d').map _=_;rw[j];rfl
def rT (h:f Z=some (d,Z1))(h':kD d T=some b):lu T f Z=some (.bl b,Z1):=by unfold lu;rw[h];show (kD d T).map _=_;rw[h'];rfl
def aP (h:a Z=some (ds,Z1))(h':fn ds=some r):cJ fn a Z=some (r,Z1):=by unfold cJ;rw[h];show (fn ds).map _=_;rw[h'];rfl
def cZ (k:(Z[i]?).bind DV.ownOf=some j)(h:a Z=some (ds,Z1))(l:(Z1[i]?).bind DV.ownOf=some t)(m:fn t.2 ds=some (r,d'))(n:Z1.set i (kindAt t.1 d')=Z2):l3 fn i a Z=some (r,Z2):=by
 unfold l3;rw[k];show (a Z).bind _=_;rw[h];show ((Z1[i]?).bind DV.ownOf).bind _=_;rw[l];show (fn t.2 ds).map _=_;rw[m,<- n];rfl
def ao:iK Z=some ([],Z):=rfl
def ag (h:f Z=some (d,Z1)) (h':a Z1=some (ds,Z2)):dA f a Z=some (d::ds,Z2):=by unfold dA;rw[h];show (a Z1).map _=_;rw[h'];rfl
def dz (h:a Z=some (ds,Z1)) (h':ds.length<=bg):rN a Z=some (.own (.lst ds),Z1):=by unfold rN;rw[h];exact if_pos h'
def il (h:a Z=some (ds,Z1)) (h':ds.length<=bg):se a Z=some (.tup ds,Z1):=by unfold se;rw[h];exact if_pos h'
def kU {n c:Dat}(h:f Z=some (c,Z1)) (i:g Z1=some (n,Z2)) (j:dv c n=some d):pN f g Z=some (d,Z2):=by
 unfold pN;rw[h];show (g Z1).bind _=_;rw[i];show (dv c n).map _=_;rw[j];rfl
def eO {i:Nat}{c0 n c:Dat}(j:(Z[i]?).bind ff=some c0) (k:g Z=some (n,Z1)) (h:(Z1[i]?).bind ff=some c) (l:dv c n=some d):o4 i g Z=some (d,Z1):=by
 unfold o4;rw[j];show (g Z).bind _=_;rw[k];show ((Z1[i]?).bind ff).bind _=_;rw[h];show (dv c n).map _=_;rw[l];rfl
def dZ {i n:Nat}{c:Dat}(j:(Z[i]?).bind ff=some c) (h:dH c=some n):mQ i Z=some (.int n,Z):=by unfold mQ;rw[j];show (dH c).map _=_;rw[h];rfl
def sO (h:e Z=some (r,Z1)):nc e Z=some (.ret r Z1):=by unfold nc;rw[h];rfl
def oZ (h:e Z=some (r,Z1))(h':gw i r Z1=some Z2):fW i e Z=some (.next Z2):=by unfold fW;rw[h];show (gw i r Z1).map _=_;rw[h'];rfl
def Ck {g:GF}(h:f Z=some (d,Z1)) (h':g d Z1=some Z2):mR g f Z=some (.next Z2):=by unfold mR;rw[h];show (g d Z1).map _=_;rw[h'];rfl
def kG (h:f Z=some (d,Z1)):kC f Z=some (.next Z1):=by unfold kC;rw[h];rfl
def l9 (h:F Z=some x):DV.alt F G Z=some x:=by unfold DV.alt;rw[h]
def xP {o1 o2:Dat->Dat->Option Res}(i:f Z=some (x,Z1))(j:g Z1=some (y,Z2))(k:o1 x y=some (.dat (.bl b)))(hh:h Z2=some (z,Z2))(l:o2 y z=some (.dat (.bl b'))):iV o1 o2 f g h Z=some (.bl (b && b'),Z2):=by
 unfold iV;simp only[i];show (g Z1).bind _=_;rw[j];simp only[a5,k];cases b
 ·rfl
 ·show (h Z2).bind _=_;rw[hh];simp only[a5,l];rfl
def Dx {o1 o2:Dat->Dat->Option Res}(hh:iV o1 o2 f g h Z=some (.bl b,Z1)):oQ o1 o2 f g h Z=some (b,Z1):=by unfold oQ;rw[hh];rfl
def jY {C:Int->Int->Bool}{g:Int->Int->Dat}(h:C i j=true):dX C g (.int i) (.int j)=some (.dat (g i j)):=if_pos h
def v_eq (h:bB x=true)(h':bB y=true):dP false x y=some (.dat (.bl (cw x y))):=by unfold dP;rw[h,h'];rfl
def mK (h:bB x=true)(h':bB y=true):dP true x y=some (.dat (.bl (!cw x y))):=by unfold dP;rw[h,h'];rfl
def m6 (h:x.length + y.length<=bg):lC (.str x) (.str y)=some (.dat (.str (x++y))):=if_pos h
def dW (h:x.length + y.length<=bg):lC (.lst x) (.lst y)=some (.own (.lst (x++y))):=if_pos h
def ug (h:F Z=none)(h':G Z=some x):DV.alt F G Z=some x:=by unfold DV.alt;rw[h];exact h'
def uj {fi:IF}{g:GF}(h:fi Z=some (ds,Z1)) (h':forLoop g s ds Z1=oo):my fi g s Z=oo:=by unfold my;rw[h];exact h'
def tD (h:s (gb n ds)=some (.ret r Z)):gX n s ds=some r:=by unfold gX;rw[h];rfl
def OR (h:s (gb n ds)=some (.next Z)):gX n s ds=some (.dat .aK):=by unfold gX;rw[h];rfl
def vt (h:s (gB n j c0 ds)=some (.ret r Z))(h':Z[j]? = some (.io i)):lN n j s c0 ds=some (r,i):=by
 unfold lN;simp only[h];simp only[a5,h']
def GG (h:f Z=some (d,Z1))(n:(Z1[i]?).bind DV.ownOf=some m)(p:l Z1=some (.int k,Z2))(q:(Z2[i]?).bind DV.ownOf=some (b,.lst xs))(t:fG xs.length k=some j)(u:Z2.set i (kindAt b (.lst (xs.set j d)))=Z3):oW i l f Z=some (.next Z3):=by
 unfold oW;rw[h];show ((Z1[i]?).bind DV.ownOf).bind _=_;rw[n];show (l Z1).bind _=_;rw[p];show ((Z2[i]?).bind DV.ownOf).bind _=_;rw[q,<- u];show (fG xs.length k).map _=_;simp only[t];rfl
def yj:dP false (.int i) (.int j)=some (.dat (.bl (decide (i=j)))):=by rw[v_eq kW kW,kh]
def o5 (h:pe i=true)(h':pe j=true):dP false (.str i) (.str j)=some (.dat (.bl (decide (i=j)))):=by rw[v_eq (fK h) (fK h'),ig]
def DM (h:b=true):nP [.bl b]=some (.dat (.int 1)):=by subst h;rfl
def D4 (h:b=false):nP [.bl b]=some (.dat (.int 0)):=by subst h;rfl
theorem wQ {j:Type}{g:GF}{fb:SF}(i:j->DS) (st:Dat->j->j) (I:j->Prop):∀(xs:List Dat) (s:j),I s->(∀x∈xs,∀s,I s->I (st x s)/\∃Z1,g x (i s)=some Z1/\fb Z1=some (.next (i (st x s)))) ->
  I (xs.foldl (λs x=>st x s) s)/\forLoop g fb xs (i s)=some (.next (i (xs.foldl (λs x=>st x s) s)))
 | [],s,h,_=>⟨h,rfl⟩
 | x::xs,s,h,k=>by
  obtain⟨l,Z1,m,n⟩:=k x (eH ..) s h;have:=wQ i st I xs (st x s) l λy p=>k y (ew _ p)
  refine⟨this.1,?_⟩;show (g x (i s)).bind _=_;rw[m];show (fb Z1).bind _=_;rw[n];exact this.2
theorem wq {g:GF}{fc:BF}{fe:DF}(I:Nat->List Dat->DS->Prop):∀(xs:List Dat) (n:Nat) (i:List Dat) (Z:DS),I n i Z->i.length + xs.length<=bg ->
  (∀(k:Nat) (x:Dat),xs[k]? = some x->∀i Z,I (n + k) i Z->∃Z1 b Z2,g x Z=some Z1/\fc Z1=some (b,Z2)/\((b=false/\noOwn Z2=true/\I (n + k + 1) i Z2)\/∃d Z3,b=true/\fe Z2=some (d,Z3)/\noOwn Z3=true/\I (n + k + 1) (i++[d]) Z3)) ->
  ∃l m,I (n + xs.length) l m/\compLoop g fc fe xs i Z=some (l,m)
 | [],n,i,Z,h,_,_=>⟨i,Z,h,rfl⟩
 | x::xs,n,i,Z,h,B,k=>by
  have v:∀(j:Nat) (y:Dat),xs[j]? = some y->∀i Z,I (n + 1 + j) i Z->∃Z1 b Z2,g y Z=some Z1/\fc Z1=some (b,Z2)/\((b=false/\noOwn Z2=true/\I (n + 1 + j + 1) i Z2)\/∃d Z3,b=true/\fe Z2=some (d,Z3)/\noOwn Z3=true/\I (n + 1 + j + 1) (i++[d]) Z3):=λj y C i Z D=>by
   have:=k (j + 1) y C i Z (by rw[show n + (j + 1)=n + 1 + j from by lia];exact D)
   rw[show n + (j + 1) + 1=n + 1 + j + 1 from by lia] at this
   exact this
  have w:n + (x::xs).length=n + 1 + xs.length:=by simp only[fk];lia
  simp only[fk] at B;obtain⟨Z1,b,Z2,z,A,E⟩:=k 0 x rfl i Z h
  rcases E with⟨rfl,p,q⟩ | ⟨d,Z3,rfl,F,p,q⟩
  ·obtain⟨l,m,t,u⟩:=wq I xs (n + 1) i Z2 q (by omega) v
   refine⟨l,m,w ▸ t,?_⟩;show (g x Z).bind _=_;simp only[z];show (fc Z1).bind _=_;rw[A];show (if noOwn Z2=true then compLoop g fc fe xs i Z2 else none)=_
   rw[if_pos p];exact u
  ·obtain⟨l,m,t,u⟩:=wq I xs (n + 1) (i++[d]) Z3 q (by rw[eJ];simp;omega) v
   refine⟨l,m,w ▸ t,?_⟩;show (g x Z).bind _=_;simp only[z];show (fc Z1).bind _=_;rw[A];show (fe Z2).bind _=_;rw[F];show (if i.length < bg/\noOwn Z3=true then _ else none)=_
   rw[if_pos ⟨by omega,p⟩]
   exact u
end
open PySem PySem.Spec PyProof.Rows L2
noncomputable def WS (s:SF) (Z:DS) (Q:Out->Prop):Prop:=∃o,s Z=some o/\Q o
noncomputable def AQ (g:SF) (Q:Out->Prop):Out->Prop
 | .next Z=>WS g Z Q
 | .ret r Z=>Q (.ret r Z)
 | .brk Z=>Q (.brk Z)
 | .cont Z=>Q (.cont Z)
 | .exc C Z=>Q (.exc C Z)
noncomputable def WB (c:BF) (Z:DS) (Q:Bool->DS->Prop):Prop:=∃b Z1,c Z=some (b,Z1)/\Q b Z1
section
variable {f g:DF}{e:EF}{c c':BF}{s s':SF}{a:AF}{Z Z1 Z2 Z3:DS}{d d':Dat}{ds:List Dat}{r:Res}{b b':Bool}{Q:Out->Prop}
def WS.mono (h:WS s Z Q)(k:∀o,Q o->i o):WS s Z i:=⟨h.choose,h.choose_spec.1,k _ h.choose_spec.2⟩
theorem aj {g:SF}(h:WS s Z (AQ g Q)):WS (lU s g) Z Q:=by
 obtain⟨o,e,q⟩:=h;unfold WS;cases o with
 | next Z1 =>
  obtain⟨o2,i,j⟩:=q;exact⟨o2,by rw[v_after,e];exact i,j⟩
 | ret r Z1=>exact⟨_,by rw[v_after,e];rfl,q⟩
 | brk Z1=>exact⟨_,by rw[v_after,e];rfl,q⟩
 | cont Z1=>exact⟨_,by rw[v_after,e];rfl,q⟩
 | exc C Z1=>exact⟨_,by rw[v_after,e];rfl,q⟩
def bf (q:Q (.next Z)):WS xc Z Q:=⟨_,rfl,q⟩
def aq {g:SF}(h:WS g Z Q):AQ g Q (.next Z):=h
def gH {g:SF}(h:Q (.ret r Z)):AQ g Q (.ret r Z):=h
def aJ (h:e Z=some (r,Z1))(h':gw i r Z1=some Z2)(q:Q (.next Z2)):WS (fW i e) Z Q:=⟨_,oZ h h',q⟩
def tL {g:GF}(h:f Z=some (d,Z1)) (h':g d Z1=some Z2) (q:Q (.next Z2)):WS (mR g f) Z Q:=⟨_,Ck h h',q⟩
def bZ (h:e Z=some (r,Z1)) (q:Q (.ret r Z1)):WS (nc e) Z Q:=⟨_,sO h,q⟩
def oM (h:f Z=some (d,Z1)) (q:Q (.next Z1)):WS (kC f) Z Q:=⟨_,kG h,q⟩
def By (h:WB c Z λb Z1=>(b=true->WS s Z1 Q)/\(b=false->WS s' Z1 Q)):WS (jv c s s') Z Q:=by
 obtain⟨b,Z1,e,j,k⟩:=h;cases b
 ·obtain⟨o,i,q⟩:=k rfl;exact⟨o,v7 e i,q⟩
 ·obtain⟨o,i,q⟩:=j rfl;exact⟨o,v7 e i,q⟩
def eL (h:c Z=some (b,Z1)) (t:b=true->WS s Z1 Q) (n:b=false->WS s' Z1 Q):WS (jv c s s') Z Q:=By ⟨b,Z1,h,t,n⟩
def Cr {Q:Bool->DS->Prop}(h:c Z=some (b,Z1)) (q:Q b Z1):WB c Z Q:=⟨b,Z1,h,q⟩
noncomputable def p4 (N:DS->Prop) (Q:Out->Prop):Out->Prop
 | .next Z=>N Z
 | .cont Z=>N Z
 | .brk Z=>Q (.next Z)
 | .ret r Z=>Q (.ret r Z)
 | .exc _ _=>False
theorem BV {g:GF}{fb:SF}{Q:Out->Prop}(I:Nat->DS->Prop):∀(xs:List Dat) (n:Nat) (Z:DS),I n Z->(∀(k:Nat) (x:Dat),xs[k]? = some x->∀Z,I (n + k) Z->∃Z1,g x Z=some Z1/\WS fb Z1 (p4 (I (n + k + 1)) Q)) ->
  (∀Z,I (n + xs.length) Z->Q (.next Z))->WS (forLoop g fb xs) Z Q
 | [],n,Z,h,_,i=>⟨_,rfl,i Z h⟩
 | x::xs,n,Z,h,k,i=>by
  obtain⟨Z1,m,o,p,q⟩:=k 0 x rfl Z h;have go:∀Z2,I (n + 0 + 1) Z2->WS (forLoop g fb xs) Z2 Q:=λZ2 t=>BV I xs (n + 1) Z2 t (λj y u Z v=>by
   have:=k (j + 1) y u Z (by rw[show n + (j + 1)=n + 1 + j from by lia];exact v)
   rw[show n + (j + 1) + 1=n + 1 + j + 1 from by lia] at this
   exact this) (λZ hd=>i Z (by simp only[fk,show n + (xs.length + 1)=n + 1 + xs.length from by lia];exact hd))
  have hh:∀l,fb Z1=some l->forLoop g fb (x::xs) Z=match l with
   | .next Z2=>forLoop g fb xs Z2
   | .cont Z2=>forLoop g fb xs Z2
   | .brk Z2=>some (.next Z2)
   | .ret r Z2=>some (.ret r Z2)
   | .exc _ _=>none:=λl w=>by
   show (g x Z).bind _=_;rw[m];show (fb Z1).bind _=_;rw[w];cases l <;> rfl
  have hh:=hh o p;unfold WS;cases o with
  | next Z2=>rw[hh];exact go Z2 q
  | cont Z2=>rw[hh];exact go Z2 q
  | brk Z2=>rw[hh];exact⟨_,rfl,q⟩
  | ret r Z2=>rw[hh];exact⟨_,rfl,q⟩
  | exc C Z2=>exact q.elim
def d7 {fi:IF}{g:GF}{fb:SF}(I:Nat->DS->Prop) (h:fi Z=some (ds,Z1)) (l:I 0 Z1) (st:∀(k:Nat) (x:Dat),ds[k]? = some x->∀Z,I k Z->∃Z1,g x Z=some Z1/\WS fb Z1 (p4 (I (k + 1)) Q))
  (i:∀Z,I ds.length Z->Q (.next Z)):WS (my fi g fb) Z Q:=by
 have:=BV (g:=g) (fb:=fb) (Q:=Q) I ds 0 Z1 l (λk x hx Z j=>by
  obtain⟨Z1,m,w⟩:=st k x hx Z (by rw[t9] at j;exact j)
  exact⟨Z1,m,by rw[t9];exact w⟩) (λZ hd=>i Z (by rw[t9] at hd;exact hd))
 obtain⟨o,e,q⟩:=this;exact⟨o,uj h e,q⟩
def N3 {P:Res->Prop}(h:WS s (gb n ds) λo=>∃r Z,o=.ret r Z/\P r):∃r,gX n s ds=some r/\P r:=by
 obtain⟨o,e,r,Z,rfl,p⟩:=h;exact⟨r,tD e,p⟩
def LO {P:Res->Dat->Prop}(h:WS s (gB n j c0 ds) λo=>∃r Z i,o=.ret r Z/\Z[j]? = some (.io i)/\P r i):∃r i,lN n j s c0 ds=some (r,i)/\P r i:=by
 obtain⟨o,e,r,Z,i,rfl,h,p⟩:=h;exact⟨r,i,vt e h,p⟩
def zi {caps:List (Option Nat)}{fi:IF}{g:GF}{fc:BF}{fe:DF}{out:List Dat}{i:DS}(h:fi Z=some (ds,Z1)) (j:ba none caps Z1=Z2) (k:compLoop g fc fe ds [] (bV caps Z2)=some (out,i)):dN caps none fi g fc fe Z=some (.own (.lst out),Z2):=by
 dsimp only[dN];simp only[h];simp only[a5,j,k];rfl
def Na {caps:List (Option Nat)}{k j:Nat}{fi:IF}{g:GF}{fc:BF}{fe:DF}{out:List Dat}{i:DS}{c0 l:Dat}(h:fi Z=some (ds,Z1)) (m:ba (some (k,j)) caps Z1=Z2) (n:caps[k]? = some (some j)) (o:Z2[j]? = some (.io c0))
  (p:compLoop g fc fe ds [] ((bV caps Z2).set k (.io c0))=some (out,i)) (q:i[k]? = some (.io l)) (t:Z2.set j (.io l)=Z3):dN caps (some (k,j)) fi g fc fe Z=some (.own (.lst out),Z3):=by
 dsimp only[dN];simp only[h];simp only[a5,m,n,if_true,o,p,q,t]
theorem Af {g:GF}{fc:BF}{fe:DF}{n:DS}(put:Dat->DS) (keep:Dat->Bool) (val:Dat->Dat):∀(xs:List Dat) (h:List Dat) (Z:DS),h.length + xs.length<=sizeLine ->
  (∀x∈xs,∀Z,(Z=n\/∃y,Z=put y)->g x Z=some (put x))->(∀x∈xs,fc (put x)=some (keep x,put x))->(∀x∈xs,keep x=true->fe (put x)=some (val x,put x))->(∀x∈xs,noOwn (put x)=true)->(Z=n\/∃y,Z=put y) ->
  ∃j,compLoop g fc fe xs h Z=some (h++(xs.filter keep).map val,j)
 | [],h,Z,_,_,_,_,_,_=>⟨Z,by simp[compLoop]⟩
 | x::xs,h,Z,z,o,p,q,t,hd=>by
  simp only[fk] at z;have u:=o x (eH ..) Z hd;have v:=p x (eH ..);have n1:=t x (eH ..);have k:=λl (w:l.length + xs.length<=sizeLine)=>Af put keep val xs l (put x) w (λy i=>o y (ew _ i)) (λy i=>p y (ew _ i)) (λy i=>q y (ew _ i)) (λy i=>t y (ew _ i)) (.inr ⟨x,rfl⟩)
  cases m:keep x with
  | false =>
   obtain⟨j,e⟩:=k h (by omega)
   refine⟨j,?_⟩;show (g x Z).bind _=_;rw[u];show (fc (put x)).bind _=_;rw[v,m];show (if noOwn (put x)=true then compLoop g fc fe xs h (put x) else none)=_
   rw[if_pos n1,e,T1,m];simp
  | true =>
   obtain⟨j,e⟩:=k (h++[val x]) (by rw[eJ];simp;omega)
   refine⟨j,?_⟩;show (g x Z).bind _=_;rw[u];show (fc (put x)).bind _=_;rw[v,m];show (fe (put x)).bind _=_;rw[q x (eH ..) m];show (if h.length < sizeLine/\noOwn (put x)=true then _ else none)=_
   rw[if_pos ⟨by omega,n1⟩,e,T1,m]
   simp
end
open PySem PySem.Spec PyProof.Rows L2
noncomputable def WE (e:EF) (Z:DS) (Q:Res->DS->Prop):Prop:=∃r Z1,e Z=some (r,Z1)/\Q r Z1
noncomputable def WD (f:DF) (Z:DS) (Q:Dat->DS->Prop):Prop:=∃d Z1,f Z=some (d,Z1)/\Q d Z1
noncomputable def WA (a:AF) (Z:DS) (Q:List Dat->DS->Prop):Prop:=∃ds Z1,a Z=some (ds,Z1)/\Q ds Z1
section
variable {f g:DF}{e:EF}{c c':BF}{s s':SF}{a:AF}{Z Z1 Z2 Z3:DS}{d d':Dat}{ds:List Dat}{r:Res}{b b':Bool}
def NK (h:e Z=some (r,Z1))(q:Q r Z1):WE e Z Q:=⟨r,Z1,h,q⟩
def KG (h:f Z=some (d,Z1))(q:Q d Z1):WD f Z Q:=⟨d,Z1,h,q⟩
def E2 (h:WD f Z λd Z1=>Q (.dat d) Z1):WE (og f) Z Q:=by
 obtain⟨d,Z1,i,q⟩:=h;exact⟨_,Z1,v_res i,q⟩
def xT (h:WE e Z λr Z1=>Q r.val Z1):WD (fM e) Z Q:=by
 obtain⟨r,Z1,i,q⟩:=h;exact⟨_,Z1,ak i rfl,q⟩
def Gr (q:Q [] Z):WA iK Z Q:=⟨_,_,rfl,q⟩
def Hu (h:WD f Z λd Z1=>WA a Z1 λds Z2=>Q (d::ds) Z2):WA (dA f a) Z Q:=by
 obtain⟨d,Z1,i,ds,Z2,j,q⟩:=h;exact⟨_,Z2,ag i j,q⟩
def LN (h:WA a Z λds Z1=>∃r,fn ds=some r/\Q r Z1):WE (cJ fn a) Z Q:=by
 obtain⟨ds,Z1,i,r,j,q⟩:=h;exact⟨r,Z1,aP i j,q⟩
def CZ (h:f Z=some (.lst ds,Z1))(i:cH ds=some ys)(j:sep.length<=16/\(ys.map (·.length)).sum + ys.length<=1048576):jA sep f Z=some (.str (Txt.join sep ys),Z1):=by
 unfold jA;simp only[h];simp only[a5,i];exact if_pos j
def Km (h:WD f Z λd Z1=>∃ds ys,d=.lst ds/\cH ds=some ys/\(sep.length<=16/\(ys.map (·.length)).sum + ys.length<=1048576)/\Q (.str (Txt.join sep ys)) Z1):WD (jA sep f) Z Q:=by
 obtain⟨d,Z1,i,ds,ys,rfl,j,k,q⟩:=h;exact⟨_,Z1,CZ i j k,q⟩
def Lm (h:WE e Z λr Z1=>∃Z2,gw i r Z1=some Z2/\Q (.next Z2)):WS (fW i e) Z Q:=by
 obtain⟨r,Z1,j,Z2,k,q⟩:=h;exact⟨_,oZ j k,q⟩
def Lv (h:WE e Z λr Z1=>Q (.ret r Z1)):WS (nc e) Z Q:=by
 obtain⟨r,Z1,i,q⟩:=h;exact⟨_,sO i,q⟩
def E4 {caps:List (Option Nat)}{kb j:Nat}{fi:IF}{g:GF}{fc:BF}{fe:DF}{xs:List Dat}{c0:Dat}{Q:Res->DS->Prop}(I:Nat->List Dat->DS->Prop) (p:fi Z=some (xs,Z1)) (t:ba (some (kb,j)) caps Z1=Z2) (u:caps[kb]? = some (some j)) (v:Z2[j]? = some (.io c0)) (w:I 0 [] ((bV caps Z2).set kb (.io c0))) (y:xs.length<=sizeLine)
  (st:∀(k:Nat) (x:Dat),xs[k]? = some x->∀h Z,I k h Z->∃Z1,g x Z=some Z1/\WB fc Z1 λb Z2=>(b=false->noOwn Z2=true/\I (k + 1) h Z2)/\(b=true->WD fe Z2 λd Z3=>noOwn Z3=true/\I (k + 1) (h++[d]) Z3))
  (m:∀h Z,I xs.length h Z->∃l,Z[kb]? = some (.io l)/\Q (.own (.lst h)) (Z2.set j (.io l))):WE (dN caps (some (kb,j)) fi g fc fe) Z Q:=by
 obtain⟨h,z,n,A⟩:=wq (g:=g) (fc:=fc) (fe:=fe) I xs 0 [] _ w (by simpa using y) (λk x hx h Z i=>by
  rw[t9] at i ⊢;obtain⟨Z1,B,b,Z2,C,o,D⟩:=st k x hx h Z i;refine⟨Z1,b,Z2,B,C,?_⟩;cases b
  ·exact .inl ⟨rfl,(o rfl).1,(o rfl).2⟩
  ·obtain⟨d,Z3,E,n3,F⟩:=D rfl;exact .inr ⟨d,Z3,rfl,E,n3,F⟩)
 rw[t9] at n;obtain⟨l,i,q⟩:=m h z n;exact⟨_,_,Na p t u v A i rfl,q⟩
end
open PySem PySem.Spec PyProof.Rows L2
section
variable {P:Program}{w:World}{K:W.Frag}{mg:Str->Option Value}{base:Heap}
noncomputable def gP (n:Nat)(f:List a->Option b):List a->Option b:=λds=>if ds.length=n then f ds else none
def Bq (h:ds.length=n):gP n f ds=f ds:=if_pos h
def ck {x a:Str}{st:Stmt}{f:Addr}{g:FuncData}{N c:List Str}{k n:Nat}{fb:SF}{Spec:aQ->Prop}(F:L2.bA K x a st f g) (S:bD N c (aS st)) (i:c.length=n)
  (j:∀(b:Value) (A:Around) (outer:List Env) (s:Shared) (H:Hp) (E:XK),cN k (A.deeper (envOfC a (aS st) s.heap.objs.size f b))->gm (iJ aX P w K mg base N a (aS st) f b A outer s H E).jN (iO st) fb)
  (d:Spec (gP n (gX N.length fb))):∃fn,aV P w K mg base aX (k + 1) f g c (aF K fn)/\Spec fn:=by
 refine⟨_,A1 F S ?_ j ?_,d⟩
 ·intro ds r h;unfold gP at h;split at h
  ·rename_i e;simp only[e,i]
  ·cases h
 ·intro ds r h;unfold gP at h;split at h
  ·exact h
  ·cases h
def mP {x a:Str}{st:Stmt}{f:Addr}{i:FuncData}{N d:List Str}{k n j:Nat}{fb:SF}{Spec:dM->Prop}(F:L2.bA K x a st f i) (S:bD N d (aS st)) (l:d.length=n + 1)
  (m:∀(b:Value) (A:Around) (outer:List Env) (s:Shared) (H:Hp) (E:XK),cN k (A.deeper (envOfC a (aS st) s.heap.objs.size f b))->gm (iJ aX P w K mg base N a (aS st) f b A outer s H E).jN (iO st) fb)
  (g:Spec (λc=>gP n (lN N.length j fb c))):∃fn,aV P w K mg base aX (k + 1) f i d (cV K j fn)/\Spec fn:=by
 refine⟨_,Be (j:=j) F S ?_ m ?_,g⟩
 ·intro c ds r h;unfold gP at h;split at h
  ·rename_i e;rw[e,l]
  ·cases h
 ·intro c ds r h;unfold gP at h;split at h
  ·exact h
  ·cases h
def yA {P:Res->Prop}(a:ds.length=m)(h:WS s (gb n ds) λo=>∃r Z,o=.ret r Z/\P r):∃r,gP m (gX n s) ds=some r/\P r:=by
 rw[Bq a];exact N3 h
def m8 {P:Res->Dat->Prop}(b:ds.length=m)(h:WS s (gB n j c0 ds) λo=>∃r Z a,o=.ret r Z/\Z[j]? = some (.io a)/\P r a):∃r a,gP m (lN n j s c0) ds=some (r,a)/\P r a:=by
 rw[Bq b];exact LO h
def cx (b:ds.length=m)(h:WS s (gb n ds) λo=>∃Z,o=.ret r Z):gP m (gX n s) ds=some r:=by
 obtain⟨a,e,z⟩:=yA (P:=λa=>a=r) b (h.mono λo ⟨Z,e⟩=>⟨r,Z,e,rfl⟩)
 rw[e,z]
end
section
variable {f g:DF}{e:EF}{s s':SF}{a:AF}{Z Z1 Z2 Z3:DS}{d d':Dat}{ds:List Dat}{r:Res}{b b':Bool}
def Jj {caps:List (Option Nat)}{fi:IF}{g:GF}{fc:BF}{fe:DF}{xs:List Dat}(put:Dat->DS) (keep:Dat->Bool) (val:Dat->Dat) (c:fi Z=some (xs,Z1)) (h:ba none caps Z1=Z2) (i:xs.length<=sizeLine)
  (j:∀x∈xs,∀Z,(Z=bV caps Z2\/∃y,Z=put y)->g x Z=some (put x)) (k:∀x∈xs,fc (put x)=some (keep x,put x)) (l:∀x∈xs,keep x=true->fe (put x)=some (val x,put x)) (m:∀x∈xs,noOwn (put x)=true) :
  dN caps none fi g fc fe Z=some (.own (.lst ((xs.filter keep).map val)),Z2):=by
 obtain⟨Z',e⟩:=Af put keep val xs [] (bV caps Z2) (by simpa using i) j k l m (.inl rfl)
 exact zi c h e
def Nh (h:f Z=some (.str x,Z1))(hx:x.cps.all (· < 128)=true):kI f Z=some (x.cps.toList.map λc=>.str ⟨#[c]⟩,Z1):=by
 unfold kI;rw[h];exact if_pos hx
def LI (h:f Z=some (.str x,Z1))(hx:x.cps.all (· < 128)=true):DV.alt (ke f) (kI f) Z=some (x.cps.toList.map λc=>.str ⟨#[c]⟩,Z1):=by
 refine ug ?_ (Nh h hx);unfold ke;rw[h];rfl
def cF (h:f Z=some (.lst ds,Z1)):DV.alt (ke f) (kI f) Z=some (ds,Z1):=by
 refine l9 ?_;unfold ke;rw[h];rfl
theorem qL (f):∀cs:List h,gh (cs.map λc=>.bl (f c))=some (cs.map f)
 | []=>rfl
 | c::cs=>by
  simp only[gi,gi,gh,qL f cs];rfl
end
def kO (h:b=a):∃c,Out.ret (.dat (.bl b)) Z=.ret (.dat (.bl a)) c:=⟨Z,by rw[h]⟩
def o6 (h:N Z):p4 N Q (.next Z):=h
def oX:dA (fC d) iK Z=some ([d],Z):=rfl
def oI (h:a Z=some ([.int n],Z1))(b:-(2 ^ 62)<=n/\n < 2 ^ 62):lX a Z=some (eY 0 n,Z1):=by
 unfold lX;rw[h];exact if_pos b
open PySem PySem.Spec PyProof.Rows L2
end DV
end
section
namespace Hs
structure Ob where
 l:Int
 b:Int
 r:Int
 t:Int
deriving DecidableEq
noncomputable def Ob.ok (x:Ob):Prop:=x.l < x.r/\x.b < x.t
noncomputable def Ob.dY (x:Ob):Int:=(x.r - x.l) * (x.t - x.b)
noncomputable def Apart (x y:Ob):Prop:=x.r<=y.l\/y.r<=x.l\/x.t<=y.b\/y.t<=x.b
noncomputable def mF (i j:Int):Int:=if j < i then j else i
noncomputable def imax (i j:Int):Int:=if j > i then j else i
def Apart.symm (h:Apart x y):Apart y x:=by unfold Apart at *;lia
end Hs
end
section
namespace Hs
end Hs
end
section
namespace Hs
section
variable {α:Type} [DecidableEq α]
noncomputable abbrev Fl (α):=List (α×Ob)
end
end Hs
end
section
namespace cf
open Hs
noncomputable def sm:Nat->(Nat->Nat)->Nat
 | 0,_=>0
 | n + 1,f=>sm n f + f n
theorem tN (f g):∀n,sm n (λi=>f i + g i)=sm n f + sm n g
 | 0=>rfl
 | n + 1=>by
  show sm n (λi=>f i + g i) + (f n + g n)=_
  rw[tN f g n];show _=(sm n f + f n) + (sm n g + g n)
  lia
theorem sE:∀{n},(∀i,i < n->f i<=g i)->sm n f<=sm n g
 | 0,_=>eS _
 | n + 1,h=>Nat.add_le_add (sE λi hi=>h i (by lia)) (h n (by lia))
theorem vA:∀{n},(∀i,i < n->f i<=g i)->∀k,k < n->f k < g k->sm n f < sm n g
 | 0,_,k,a,_=>by lia
 | n + 1,h,k,a,b=>by
  show sm n f + f n < sm n g + g n
  by_cases e:k=n
  ·subst e;have:=sE (n:=k) (f:=f) (g:=g) λi c=>h i (by lia)
   omega
  ·have:=vA (n:=n) (λi c=>h i (by lia)) k (by lia) b
   have:=h n (by lia)
   lia
theorem qS (c):∀n,sm n (λ_=>c)=n * c
 | 0=>by simp[sm]
 | n + 1=>by
  show sm n _ + c=_;simp only[qS c n,VF]
def BY:∀n,sm n (λ_=>0)=0:=λn=>by rw[qS];simp
theorem xK (a b c) (h:a<=b):∀n,b<=n->sm n (λi=>if a<=i/\i < b then c else 0)=(b - a) * c:=by
 have g:∀n,n<=a->sm n (λi=>if a<=i/\i < b then c else 0)=0:=λn=>by
  induction n with
  | zero=>intro _;rfl
  | succ n d =>
   intro j;show sm n _ + (if a<=n/\n < b then c else 0)=0
   rw[d (by omega),if_neg (by omega)]
 have f:∀n,a<=n->n<=b->sm n (λi=>if a<=i/\i < b then c else 0)=(n - a) * c:=λn=>by
  induction n with
  | zero =>
   intro k _;have:a=0:=by lia
   subst this;simp[sm]
  | succ n d =>
   intro k h2;show sm n _ + (if a<=n/\n < b then c else 0)=_
   by_cases e:a=n + 1
   ·rw[g n (by omega),if_neg (by omega),e];simp
   ·rw[d (by lia) (by omega),if_pos (by lia),show n + 1 - a=(n - a) + 1 by lia,VF]
 intro n;induction n with
 | zero =>
  intro j;rw[f 0 (by lia) (by lia)]
  have:b=0:=by lia
  rw[this]
 | succ n d =>
  intro j
  by_cases e:b=n + 1
  ·rw[f (n + 1) (by lia) (by omega),e]
  ·show sm n _ + (if a<=n/\n < b then c else 0)=_
   rw[d (by lia),if_neg (by lia),Nat.add_zero]
noncomputable def ie (o:Ob) (x y:Nat):Bool:=decide (o.l<=(x:Int)) && decide ((x:Int) < o.r) && decide (o.b<=(y:Int)) && decide ((y:Int) < o.t)
def mN:ie o x y=true ↔ o.l<=(x:Int)/\(x:Int) < o.r/\o.b<=(y:Int)/\(y:Int) < o.t:=by
 unfold ie;simp only[dV,decide_eq_true_eq];constructor
 ·rintro⟨⟨⟨a,b⟩,c⟩,d⟩;exact⟨a,b,c,d⟩
 ·rintro⟨a,b,c,d⟩;exact⟨⟨⟨a,b⟩,c⟩,d⟩
noncomputable def gq (os:List Ob) (x y:Nat):Nat:=os.countP λo=>ie o x y
noncomputable def fF (W H:Nat) (f:Nat->Nat->Nat):Nat:=sm W λx=>sm H λy=>f x y
def EY (W H) (f g):fF W H (λx y=>f x y + g x y)=fF W H f + fF W H g:=by
 unfold fF;rw[<- tN];congr 1;funext x;exact tN _ _ H
def Fp {W H:Nat}{o:Ob}(h1:0<=o.l) (h2:o.l < o.r) (h3:o.r<=W) (h4:0<=o.b) (h5:o.b < o.t) (h6:o.t<=H):(fF W H (λx y=>if ie o x y=true then 1 else 0):Int)=o.dY:=by
 have e:∀x:Nat,sm H (λy=>if ie o x y=true then 1 else 0)=if o.l.toNat<=x/\x < o.r.toNat then o.t.toNat - o.b.toNat else 0:=λx=>by
  by_cases hx:o.l.toNat<=x/\x < o.r.toNat
  ·rw[if_pos hx];have a:(λy=>if ie o x y=true then 1 else 0)=λy=>if o.b.toNat<=y/\y < o.t.toNat then 1 else 0:=by
    funext y
    by_cases c:o.b.toNat<=y/\y < o.t.toNat
    ·rw[if_pos c,if_pos (mN.mpr (by lia))]
    ·rw[if_neg c,if_neg (λz=>c (by have:=mN.mp z;omega))]
   rw[a,xK _ _ _ (by lia) H (by lia),W6]
  ·rw[if_neg hx];have a:(λy=>if ie o x y=true then 1 else 0)=λ_=>0:=by
    funext y;rw[if_neg (λz=>hx (by have:=mN.mp z;omega))]
   rw[a,BY]
 dsimp only[fF];rw[show (λx=>sm H (λy=>if ie o x y=true then 1 else 0))=λx=>if o.l.toNat<=x/\x < o.r.toNat then o.t.toNat - o.b.toNat else 0 from funext e,xK _ _ _ (by lia) W (by lia)]
 unfold Ob.dY;simp only[X8];congr 1 <;> lia
structure Within (W H:Nat) (o:Ob):Prop where
 l:0<=o.l
 w:o.l < o.r
 r:o.r<=W
 b:0<=o.b
 h:o.b < o.t
 t:o.t<=H
theorem yx:∀{os:List Ob},(∀o∈os,Within W H o)->(fF W H (gq os):Int)=(os.map Ob.dY).sum
 | [],_=>by
  have:gq []=λ_ _=>0:=rfl
  unfold fF;rw[this];simp[BY]
 | o::os,h=>by
  have e:gq (o::os)=λx y=>(if ie o x y=true then 1 else 0) + gq os x y:=by
   funext x y;unfold gq;simp only[hY]
   lia
  have a:=h o (by simp)
  rw[e,EY,Int.natCast_add,Fp a.l a.w a.r a.b a.h a.t,yx λp c=>h p (by simp[c])]
  simp
theorem yf (ap:os.Pairwise Apart)(x y:Nat):gq os x y<=1:=by
 unfold gq;induction os with
 | nil=>simp
 | cons o os b =>
  rw[Tw] at ap;rw[hY]
  by_cases h:ie o x y=true
  ·rw[if_pos h];have:os.countP (λo=>ie o x y)=0:=by
    rw[mo];intro p c d;have a:=ap.1 p c;have:=mN.mp h;have:=mN.mp d;unfold Apart at a;omega
   lia
  ·rw[if_neg h];exact b ap.2
def filled {W H:Nat}{os:List Ob}(a:∀o∈os,Within W H o) (ap:os.Pairwise Apart) (ar:(os.map Ob.dY).sum=(W:Int) * H) {x y:Int}(hx:0<=x) (hx':x < W) (hy:0<=y) (hy':y < H) :
  ∃o∈os,o.l<=x/\x < o.r/\o.b<=y/\y < o.t:=by
 refine Ua λno=>?_
 have c:gq os x.toNat y.toNat=0:=by
  unfold gq;rw[mo];intro p d e;have:=mN.mp e;exact no ⟨p,d,by omega⟩
 have g:=yx a;rw[ar] at g;have lt:fF W H (gq os) < fF W H (λ_ _=>1):=by
  dsimp only[fF];refine vA (λi _=>sE λj _=>yf ap i j) x.toNat (by omega) (vA (λj _=>yf ap _ j) y.toNat (by omega) ?_)
  show gq os x.toNat y.toNat < 1;rw[c];exact Nat.one_pos
 have one:fF W H (λ_ _=>1)=W * H:=by
  unfold fF;rw[show (λ_:Nat=>sm H λ_=>1)=λ_=>H from funext λ_=>by rw[qS,W6],qS]
 rw[one] at lt;have:(fF W H (gq os):Int) < (W * H:Nat):=by exact_mod_cast lt
 rw[g,X8] at this;omega
noncomputable def ik (o:Ob):List (Int×Int):=[(o.l,o.b),(o.l,o.t),(o.r,o.b),(o.r,o.t)]
noncomputable def oh (os:List Ob):List (Int×Int):=os.flatMap ik
end cf
end
section
namespace zD
open PySem L2
end zD
end
section
namespace cf
open Hs
structure Cuts (o:Ob) (os:List Ob):Prop where
 aE:∀x∈os,o.l<=x.l/\x.l < x.r/\x.r<=o.r/\o.b<=x.b/\x.b < x.t/\x.t<=o.t
 ap:os.Pairwise Apart
 ar:(os.map Ob.dY).sum=o.dY
def Cuts.one (h:o.ok):Cuts o [o]:=⟨λx hx=>by
 cases iR.mp hx;unfold Ob.ok at h
 lia,UH _ _,by simp⟩
def Kg (e:os[j]? = some x):os=os.take j++x::os.drop (j + 1):=by
 obtain⟨h,e⟩:=bc.mp e;rw[<- e,List.getElem_cons_drop,qt]
def Cuts.Cd (h:Cuts o os)(e:os[j]? = some x)(h':Cuts x d):Cuts o (os.take j++d++os.drop (j + 1)):=by
 have m:=Kg e;generalize os.take j=A at *;generalize os.drop (j + 1)=B at *;subst m;obtain⟨g,k,n⟩:=h;obtain⟨i,p,q⟩:=h';rw[Va,Tw] at k;obtain⟨r,⟨l,s⟩,f⟩:=k;refine⟨λy b=>?_,?_,?_⟩
 ·rcases ee.mp b with b | b
  ·rcases ee.mp b with b | b
   ·exact g y (by simp[b])
   ·have:=g x (by simp)
    have:=i y b;omega
  ·exact g y (by simp[b])
 ·rw[Va,Va];refine⟨⟨r,p,λy b z c=>?_⟩,s,λy b z c=>?_⟩
  ·have a:=f y b x (by simp)
   have:=i z c;unfold Apart at *;omega
  ·rcases ee.mp b with b | b
   ·exact f y b z (by simp[c])
   ·have a:=l z c;have:=i y b;unfold Apart at *;omega
 ·simp only[f',f',VU,VU,q,<- n,f',gi,VU,rp]
  lia
def Cuts.up (h:o.ok)(h1:o.b < a)(h2:a < o.t):Cuts o [⟨o.l,o.b,o.r,a⟩,⟨o.l,a,o.r,o.t⟩]:=by
 unfold Ob.ok at h;refine⟨λx hx=>?_,?_,?_⟩
 ·simp only[cR,fm,or_false] at hx
  rcases hx with rfl | rfl <;> dsimp only <;> lia
 ·simp[Apart]
 ·simp only[gi,TK,rp,VA,Ob.dY]
  grind
def Cuts.on (h:o.ok)(h1:o.l < a)(h2:a < o.r):Cuts o [⟨o.l,o.b,a,o.t⟩,⟨a,o.b,o.r,o.t⟩]:=by
 unfold Ob.ok at h;refine⟨λx hx=>?_,?_,?_⟩
 ·simp only[cR,fm,or_false] at hx
  rcases hx with rfl | rfl <;> dsimp only <;> lia
 ·simp[Apart]
 ·simp only[gi,TK,rp,VA,Ob.dY]
  grind
def Cuts.Og (h1:l < x)(h2:x < c)(h3:c < r)(h4:b < y)(h5:y < a)(h6:a < t):Cuts ⟨l,b,r,t⟩ [⟨l,b,c,y⟩,⟨c,b,r,a⟩,⟨x,a,r,t⟩,⟨l,y,x,t⟩,⟨x,y,c,a⟩]:=by
 refine⟨λx hx=>?_,?_,?_⟩
 ·simp only[cR,fm,or_false] at hx
  rcases hx with rfl | rfl | rfl | rfl | rfl <;> dsimp only <;> lia
 ·simp only[Tw,cR,fm,or_false,forall_eq_or_imp,forall_eq,Apart,UY,and_true];refine⟨⟨?_,?_,?_,?_⟩,⟨?_,?_,?_⟩,⟨?_,?_⟩,?_,?_⟩ <;> first | omega | simp
 ·simp only[gi,TK,rp,VA,Ob.dY]
  grind
def Cuts.F1 (h1:l < x)(h2:x < c)(h3:c < r)(h4:b < y)(h5:y < a)(h6:a < t):Cuts ⟨l,b,r,t⟩ [⟨x,b,r,y⟩,⟨c,y,r,t⟩,⟨l,a,c,t⟩,⟨l,b,x,a⟩,⟨x,y,c,a⟩]:=by
 refine⟨λx hx=>?_,?_,?_⟩
 ·simp only[cR,fm,or_false] at hx
  rcases hx with rfl | rfl | rfl | rfl | rfl <;> dsimp only <;> lia
 ·simp only[Tw,cR,fm,or_false,forall_eq_or_imp,forall_eq,Apart,UY,and_true];refine⟨⟨?_,?_,?_,?_⟩,⟨?_,?_,?_⟩,⟨?_,?_⟩,?_,?_⟩ <;> first | omega | simp
 ·simp only[gi,TK,rp,VA,Ob.dY]
  grind
theorem FV {l a:List Int}(p:l.Perm a):l.sum=a.sum:=by
 induction p with
 | nil=>rfl
 | cons x _ b=>simp only[rp,rp,b]
 | swap x y l=>simp only[rp];lia
 | trans _ _ c d=>simp only[c,d]
theorem Cuts.perm {o:Ob}{os b:List Ob}(h:Cuts o os) (p:b.Perm os):Cuts o b :=
 ⟨λx hx=>h.aE x (p.mem_iff.mp hx),p.symm.pairwise h.ap λ{x y} a=>by unfold Apart at *;lia,by rw[FV (p.map Ob.dY)];exact h.ar⟩
end cf
end
section
namespace Tl
open Hs
noncomputable def ae (o:Ob):Ob:=⟨-o.t,o.l,-o.b,o.r⟩
noncomputable def aa:Nat->Ob->Ob
 | 0,o=>o
 | k + 1,o=>ae (aa k o)
structure az (bx:Ob) (os:List Ob):Prop where
 aE:∀o∈os,bx.l<=o.l/\o.l < o.r/\o.r<=bx.r/\bx.b<=o.b/\o.b < o.t/\o.t<=bx.t
 ap:∀x∈os,∀y∈os,x=y\/Apart x y
 hit:∀p q,bx.l<=p->p < bx.r->bx.b<=q->q < bx.t->∃o∈os,o.l<=p/\p < o.r/\o.b<=q/\q < o.t
 four:∀x∈os,∀n∈os,∀m∈os,∀z∈os,¬(n.r=x.r/\n.b=x.t/\m.l=x.r/\m.t=x.t/\z.l=x.r/\z.b=x.t)
noncomputable def wN (a:Ob):Ob:=⟨a.l,a.t,a.r,a.t + 1⟩
noncomputable def wE (a:Ob):Ob:=⟨a.r,a.b,a.r + 1,a.t⟩
noncomputable def wS (a:Ob):Ob:=⟨a.l,a.b - 1,a.r,a.b⟩
noncomputable def wW (a:Ob):Ob:=⟨a.l - 1,a.b,a.l,a.t⟩
noncomputable def walls (a:Ob):List Ob:=[wN a,wE a,wS a,wW a]
def J9 (h:ae x=ae y):x=y:=by
 cases x;cases y;simp only[ae,Ob.mk.injEq] at h ⊢
 lia
theorem gA:∀(k:Nat) {x y:Ob},aa k x=aa k y->x=y
 | 0,_,_,h=>h
 | k + 1,_,_,h=>gA k (J9 h)
def az.turn (T:az j os):az (ae j) (os.map Tl.ae) where
 aE:=λo f=>by
  obtain⟨x,hx,rfl⟩:=a9.mp f;have:=T.aE x hx;simp only[Tl.ae];omega
 ap:=λa g b i=>by
  obtain⟨x,hx,rfl⟩:=a9.mp g;obtain⟨y,r,rfl⟩:=a9.mp i
  rcases T.ap x hx y r with e | e
  ·exact .inl (by rw[e])
  ·right;unfold Apart at *;simp only[Tl.ae]
   lia
 hit:=λp q s t k l=>by
  simp only[Tl.ae] at s t k l;obtain⟨o,f,k1,k2,k3,k4⟩:=T.hit q (-p - 1) k l (by lia) (by lia)
  refine⟨Tl.ae o,a9.mpr ⟨o,f,rfl⟩,?_⟩;simp only[Tl.ae]
  lia
 four:=λa g b i c u d hd h=>by
  obtain⟨x,hx,rfl⟩:=a9.mp g;obtain⟨n,v,rfl⟩:=a9.mp i;obtain⟨m,w,rfl⟩:=a9.mp u;obtain⟨z,A,rfl⟩:=a9.mp hd;simp only[Tl.ae] at h;exact T.four m w x hx z A n v (by lia)
noncomputable def Up (x y:Ob):Prop:=y.b=x.t/\x.l < y.r/\y.l < x.r
noncomputable instance {x y:Ob}:Decidable (Up x y):=by unfold Up;infer_instance
section
variable {bx:Ob}{os:List Ob}{x y z n m:Ob}
def ju (a:m∈walls bx) (i:bx.l<=x.l/\x.l < x.r/\x.r<=bx.r/\bx.b<=x.b/\x.b < x.t/\x.t<=bx.t) (u:Up x m):m=wN bx/\x.t=bx.t:=by
 obtain⟨d,i2,e,i4,i5,i6⟩:=i;obtain⟨c,f,g⟩:=u;simp only[walls,cR,fm,or_false] at a
 rcases a with rfl | rfl | rfl | rfl
 ·exact⟨rfl,c.symm⟩
 ·exact absurd g (U0.mpr e)
 ·exact absurd (show bx.b - 1=x.t from c) (by omega)
 ·exact absurd f (U0.mpr d)
def lV (a:m∈walls bx) (i:bx.l<=x.l/\x.l < x.r/\x.r<=bx.r/\bx.b<=x.b/\x.b < x.t/\x.t<=bx.t) (u:Up (ae x) (ae m)):m=wE bx/\x.r=bx.r:=by
 obtain⟨i1,i2,i3,d,i5,e⟩:=i;obtain⟨c,f,g⟩:=u;simp only[walls,cR,fm,or_false] at a
 rcases a with rfl | rfl | rfl | rfl
 ·exact absurd (Ur.mp (show -x.t < -bx.t from f)) (U0.mpr e)
 ·exact⟨rfl,c.symm⟩
 ·exact absurd (Ur.mp (show -bx.b < -x.b from g)) (U0.mpr d)
 ·exact absurd (show bx.l - 1=x.r from c) (by omega)
def az.cover (T:az bx os) (hx:x∈os) (c:x.t < bx.t)(h1:x.l<=p)(h2:p < x.r):∃y∈os,Up x y/\y.l<=p/\p < y.r:=by
 have ix:=T.aE x hx;obtain⟨y,b,d,e,k3,k4⟩:=T.hit p x.t (by omega) (by omega) (by omega) c
 have iy:=T.aE y b;refine⟨y,b,?_,d,e⟩;unfold Up
 rcases T.ap x hx y b with rfl | a
 ·lia
 ·unfold Apart at a
  lia
def az.next (T:az bx os) (hx:x∈os) (e:x.t < bx.t) (c:y∈os) (u:Up x y) (h:y.r < x.r):∃z∈os,Up x z/\z.l=y.r:=by
 unfold Up at u;obtain⟨z,b,d,k1,k2⟩:=T.cover hx e (p:=y.r) (by omega) h
 refine⟨z,b,d,?_⟩;have iy:=T.aE y c;have iz:=T.aE z b;unfold Up at d
 rcases T.ap y c z b with rfl | a
 ·lia
 ·unfold Apart at a;omega
def az.prev (T:az bx os) (hx:x∈os) (e:x.t < bx.t) (c:y∈os) (u:Up x y) (h:x.l < y.l):∃z∈os,Up x z/\z.r=y.l:=by
 unfold Up at u;obtain⟨z,b,d,k1,k2⟩:=T.cover hx e (p:=y.l - 1) (by lia) (by lia)
 refine⟨z,b,d,?_⟩;have iy:=T.aE y c;have iz:=T.aE z b;unfold Up at d
 rcases T.ap y c z b with rfl | a
 ·lia
 ·unfold Apart at a;omega
def az.tee (T:az bx os) (hx:x∈os) (b:n∈os) (c:m∈os) (un:Up x n) (en:x.r<=n.r) (e:Up (Tl.ae x) (Tl.ae m)) (em:x.t<=m.t):(x.r < n.r/\m.t=x.t)\/(n.r=x.r/\x.t < m.t):=by
 have ix:=T.aE x hx;have jn:=T.aE n b;have jm:=T.aE m c;unfold Up at un e;simp only[Tl.ae] at e;have f:Apart n m:=by
  rcases T.ap n b m c with rfl | a
  ·omega
  ·exact a
 unfold Apart at f
 by_cases g:n.r=x.r
 ·by_cases h:m.t=x.t
  ·exfalso;obtain⟨z,d,k1,k2,k3,k4⟩:=T.hit x.r x.t (by omega) (by omega) (by omega) (by omega)
   have iz:=T.aE z d;have i:Apart n z:=by
    rcases T.ap n b z d with rfl | a
    ·omega
    ·exact a
   have j:Apart m z:=by
    rcases T.ap m c z d with rfl | a
    ·lia
    ·exact a
   unfold Apart at i j;exact T.four x hx n b m c z d ⟨g,un.1,by lia,h,by lia,by lia⟩
  ·lia
 ·lia
end
noncomputable def lA (x n m:Ob):Prop:=(Up x n/\Up x m/\n.r=m.l)\/(Up x n/\x.r<=n.r/\Up (ae x) (ae m)/\x.t<=m.t)
noncomputable def cv (x n m:Ob):Prop:=∃k,k < 4/\lA (aa k x) (aa k n) (aa k m)
def mv (o):ae (ae (ae (ae o)))=o:=by
 cases o;simp[ae]
def cv.up (h:cv (ae x) (ae n) (ae m)):cv x n m:=by
 obtain⟨k,hk,h⟩:=h;have e:∀(k:Nat) (o:Ob),aa k (ae o)=aa (k + 1) o:=λk o=>by
  induction k with
  | zero=>rfl
  | succ k b=>show ae (aa k (ae o))=_;rw[b];rfl
 simp only[e,e,e] at h
 by_cases c:k=3
 ·subst c;refine⟨0,by decide,?_⟩
  have a:∀o,aa (3 + 1) o=aa 0 o:=λo=>mv o
  simp only[a,a,a] at h;exact h
 ·exact⟨k + 1,by lia,h⟩
section
variable {bx:Ob}{os:List Ob}{x n m:Ob}
def az.G5 (T:az bx os) (hx:x∈os) (h:lA x n m) (c:n∈os\/n∈walls bx) (hm:m∈os\/m∈walls bx):(n∈os->cv n m x)/\(m∈os->cv m x n):=by
 have i:=T.aE x hx;have no:∀{o:Ob},o∈os->o∈walls bx->False:=λ{o} h h'=>by
  have:=T.aE o h;simp only[walls,cR,fm,or_false] at h'
  rcases h' with rfl | rfl | rfl | rfl <;> dsimp only[wN,wE,wS,wW] at this <;> omega
 rcases h with⟨un,d,e⟩ | ⟨un,p,d,em⟩
 ·have f:n∈os:=c.resolve_right λh=>by
   obtain⟨rfl,_⟩:=ju h i un;have:=d.2.2;dsimp only[wN] at e;omega
  have g:m∈os:=hm.resolve_right λh=>by
   obtain⟨rfl,_⟩:=ju h i d;have:=un.2.1;dsimp only[wN] at e;omega
  have q:=T.aE n f;have r:=T.aE m g;obtain⟨s,u,v⟩:=un;obtain⟨j,k,l⟩:=d;refine⟨λ_=>⟨1,by decide,.inr ?_⟩,λ_=>⟨2,by decide,.inr ?_⟩⟩
  ·dsimp only[aa,Tl.ae,Up]
   and_intros <;> first | assumption | exact z3 (by assumption) | omega
  ·dsimp only[aa,Tl.ae,Up]
   and_intros <;> first | assumption | exact z3 (by assumption) | omega
 ·rcases c with c | c <;> rcases hm with hm | hm
  ·have q:=T.aE n c;have r:=T.aE m hm;have t:=T.tee hx c hm un p d em;obtain⟨s,u,v⟩:=un;obtain⟨j,k,l⟩:=d;dsimp only[Tl.ae] at j k l
   rcases t with⟨a,b⟩ | ⟨a,b⟩
   ·refine⟨λ_=>⟨2,by decide,.inl ?_⟩,λ_=>⟨3,by decide,.inr ?_⟩⟩
    ·dsimp only[aa,Tl.ae,Up]
     and_intros <;> first | assumption | exact z3 (by assumption) | omega
    ·dsimp only[aa,Tl.ae,Up]
     and_intros <;> first | assumption | exact z3 (by assumption) | omega
   ·refine⟨λ_=>⟨1,by decide,.inr ?_⟩,λ_=>⟨3,by decide,.inl ?_⟩⟩
    ·dsimp only[aa,Tl.ae,Up]
     and_intros <;> first | assumption | exact z3 (by assumption) | omega
    ·dsimp only[aa,Tl.ae,Up]
     and_intros <;> first | assumption | exact z3 (by assumption) | omega
  ·have q:=T.aE n c;obtain⟨rfl,w⟩:=lV hm i d;obtain⟨s,u,v⟩:=un;refine⟨λ_=>⟨1,by decide,.inr ?_⟩,λg=>(no g hm).elim⟩
   dsimp only[aa,Tl.ae,Up,wE] at em ⊢
   and_intros <;> first | assumption | exact z3 (by assumption) | omega
  ·have r:=T.aE m hm;obtain⟨rfl,w⟩:=ju c i un;obtain⟨j,k,l⟩:=d;refine⟨λf=>(no f c).elim,λ_=>⟨3,by decide,.inr ?_⟩⟩
   dsimp only[aa,Tl.ae,Up,wN] at p j k l ⊢
   and_intros <;> first | assumption | exact z3 (by assumption) | omega
  ·exact⟨λf=>(no f c).elim,λg=>(no g hm).elim⟩
end
end Tl
end
section
namespace Tl
open Hs
def g9 {x y:Ob}(a:x.l=y.l) (c:x.b=y.b) (d:x.r=y.r) (e:x.t=y.t):x=y:=by
 cases x;cases y;simp only[Ob.mk.injEq];exact⟨a,c,d,e⟩
def Fu (h:o∈walls a):ae o∈walls (ae a):=by
 have h:o=wN a\/o=wE a\/o=wS a\/o=wW a:=by simpa[walls] using h
 rcases h with rfl | rfl | rfl | rfl
 ·rw[show ae (wN a)=wW (ae a) from g9 (by simp only[ae,wN,wW] <;> lia) (by simp only[ae,wN,wW] <;> omega) (by simp only[ae,wN,wW] <;> omega) (by simp only[ae,wN,wW] <;> omega)];simp[walls]
 ·rw[show ae (wE a)=wN (ae a) from g9 (by simp only[ae,wE,wN] <;> omega) (by simp only[ae,wE,wN] <;> omega) (by simp only[ae,wE,wN] <;> omega) (by simp only[ae,wE,wN] <;> omega)];simp[walls]
 ·rw[show ae (wS a)=wE (ae a) from g9 (by simp only[ae,wS,wE] <;> omega) (by simp only[ae,wS,wE] <;> omega) (by simp only[ae,wS,wE] <;> lia) (by simp only[ae,wS,wE] <;> omega)];simp[walls]
 ·rw[show ae (wW a)=wS (ae a) from g9 (by simp only[ae,wW,wS] <;> omega) (by simp only[ae,wW,wS] <;> omega) (by simp only[ae,wW,wS] <;> omega) (by simp only[ae,wW,wS] <;> omega)];simp[walls]
theorem az.turns (T:az a os):∀k,az (aa k a) (os.map (Tl.aa k))
 | 0=>by
  show az a (os.map λo=>o)
  rw[s9];exact T
 | k + 1=>by
  have:=(T.turns k).turn;rw[hA] at this;exact this
theorem pX (h:o∈walls a):∀k,aa k o∈walls (aa k a)
 | 0=>h
 | k + 1=>Fu (pX h k)
theorem cv.ups:∀(k:Nat) {x n m:Ob},cv (aa k x) (aa k n) (aa k m)->cv x n m
 | 0,_,_,_,h=>h
 | k + 1,_,_,_,h=>cv.ups k (cv.up h)
section
variable {bx:Ob}{os:List Ob}{x n m m':Ob}
def az.close (T:az bx os) (hx:x∈os) (h:cv x n m) (d:n∈os\/n∈walls bx) (e:m∈os\/m∈walls bx):(n∈os->cv n m x)/\(m∈os->cv m x n):=by
 obtain⟨k,hk,h⟩:=h;have c:∀{o:Ob},o∈os->Tl.aa k o∈os.map (Tl.aa k):=λ{o} h=>a9.mpr ⟨o,h,rfl⟩
 have up:∀{o:Ob},(o∈os\/o∈walls bx)->(Tl.aa k o∈os.map (Tl.aa k)\/Tl.aa k o∈walls (Tl.aa k bx)):=λ{o} h=>h.imp c (λh=>pX h k)
 obtain⟨a,b⟩:=(T.turns k).G5 (c hx) h (up d) (up e);exact⟨λz=>cv.ups k (a (c z)),λz=>cv.ups k (b (c z))⟩
noncomputable def Nb (bx:Ob) (os:List Ob) (o:Ob):Prop:=o∈os\/o∈walls bx
theorem Nb.ok (T:az bx os) (a:bx.ok) (h:Nb bx os n):n.l < n.r/\n.b < n.t:=by
 unfold Ob.ok at a
 rcases h with h | h
 ·have:=T.aE n h;omega
 ·have h:n=wN bx\/n=wE bx\/n=wS bx\/n=wW bx:=by simpa[walls] using h
  rcases h with rfl | rfl | rfl | rfl <;> simp only[wN,wE,wS,wW] <;> lia
theorem Nb.ap (T:az bx os) (a:bx.ok) (h:Nb bx os n) (h':Nb bx os m):n=m\/Apart n m:=by
 have wl:∀{o:Ob},o∈walls bx->o=wN bx\/o=wE bx\/o=wS bx\/o=wW bx:=λ{o} h=>by simpa[walls] using h
 unfold Apart;unfold Ob.ok at a
 rcases h with h | h <;> rcases h' with h' | h'
 ·exact T.ap n h m h'
 ·have i:=T.aE n h;right
  rcases wl h' with rfl | rfl | rfl | rfl <;> simp only[wN,wE,wS,wW] <;> omega
 ·have i:=T.aE m h';right
  rcases wl h with rfl | rfl | rfl | rfl <;> simp only[wN,wE,wS,wW] <;> omega
 ·rcases wl h with rfl | rfl | rfl | rfl <;> rcases wl h' with rfl | rfl | rfl | rfl <;> first | exact .inl rfl | (right;simp only[wN,wE,wS,wW];omega)
def EO (hx:x.l < x.r/\x.b < x.t) (om:m.l < m.r/\m.b < m.t) (om':m'.l < m'.r/\m'.b < m'.t) (ap:m=m'\/Apart m m') (h:lA x n m) (h':lA x n m'):m=m':=by
 rcases ap with e | a
 ·exact e
 ·exfalso;unfold lA Up Apart at *;simp only[ae] at *;omega
def B7 (hk:k < 4)(hj:j < 4)(ox:x.l < x.r/\x.b < x.t)(on:n.l < n.r/\n.b < n.t)(h:Up (aa k x) (aa k n))(h':Up (aa j x) (aa j n)):k=j:=by
 have a:k=0\/k=1\/k=2\/k=3:=by lia
 have c:j=0\/j=1\/j=2\/j=3:=by lia
 unfold Up at *
 rcases a with rfl | rfl | rfl | rfl <;> rcases c with rfl | rfl | rfl | rfl <;> first | rfl | (exfalso;simp only[aa,ae] at *;lia)
def xy (k) (h:n=m\/Apart n m):aa k n=aa k m\/Apart (aa k n) (aa k m):=by
 rcases h with h | h
 ·exact .inl (by rw[h])
 ·right;induction k with
  | zero=>exact h
  | succ k ih =>
   show Apart (ae (aa k n)) (ae (aa k m));unfold Apart at *;simp only[ae]
   lia
theorem lI (k) (h:n.l < n.r/\n.b < n.t):(aa k n).l < (aa k n).r/\(aa k n).b < (aa k n).t:=by
 induction k with
 | zero=>exact h
 | succ k ih =>
  show (ae (aa k n)).l < (ae (aa k n)).r/\_;simp only[aa,ae]
  lia
def lA.up (h:lA x n m):Up x n:=by
 rcases h with⟨h,_⟩ | ⟨h,_⟩ <;> exact h
def az.GX (T:az bx os) (a:bx.ok) (hx:x∈os) (f:Nb bx os n) (d:Nb bx os m) (c:Nb bx os m') (h:cv x n m) (h':cv x n m'):m=m':=by
 obtain⟨k,g,h⟩:=h;obtain⟨j,i,h'⟩:=h';have e:x.l < x.r/\x.b < x.t:=Nb.ok T a (.inl hx);have:=B7 g i e (Nb.ok T a f) h.up h'.up;subst this;exact gA k (EO (lI k e) (lI k (Nb.ok T a d)) (lI k (Nb.ok T a c)) (xy k (Nb.ap T a d c)) h h')
end
end Tl
end
section
namespace Tl
open Hs
noncomputable def bI (N:List Ob) (x:Ob) (k:Nat):List Ob:=(N.filter λy=>decide (Up (aa k x) (aa k y))).mergeSort λa b=>decide ((aa k a).l<=(aa k b).l)
noncomputable def bj (N:List Ob) (x:Ob):List Ob:=bI N x 0++bI N x 1++bI N x 2++bI N x 3
def fN:y∈bI N x k ↔ y∈N/\Up (aa k x) (aa k y):=by
 unfold bI;rw[Xi,ft,decide_eq_true_eq]
def Kn {N:List Ob}{x:Ob}{k:Nat}{i j:Nat}{a b:Ob}(hij:i<=j) (h:(bI N x k)[i]? = some a) (d:(bI N x k)[j]? = some b):(aa k a).l<=(aa k b).l:=by
 by_cases e:i=j
 ·subst e;rw[h] at d;cases d;exact UB _
 ·have:=Tz (le:=λa b=>decide ((aa k a).l<=(aa k b).l)) (λa b c m n=>by
   simp only[decide_eq_true_eq] at *
   lia) (λa b=>by
   simp only[VX,decide_eq_true_eq,decide_eq_true_eq]
   lia) (N.filter λy=>decide (Up (aa k x) (aa k y)))
  obtain⟨m,f⟩:=bc.mp h;obtain⟨n,g⟩:=bc.mp d;have:=lb.mp this i j m n (by lia)
  rw[decide_eq_true_eq] at this;have f:_=a:=f;have g:_=b:=g;rw[<- f,<- g];exact this
section
variable {bx:Ob}{os:List Ob}{x:Ob}
def az.FA (T:az bx os) (I:bx.ok) (hx:x∈os)(u:∀y,y∈l ↔ Nb bx os y/\Up x y)(nd:l.Nodup)(v:∀(i j:Nat) a b,i<=j->l[i]? = some a->l[j]? = some b->a.l<=b.l) :
  l≠[]/\(∀(i:Nat) a b,l[i]? = some a->l[i + 1]? = some b->a.r=b.l)/\(∀a,l[0]? = some a->a.l<=x.l)/\(∀a,l[l.length - 1]? = some a->x.r<=a.r):=by
 have ix:=T.aE x hx;unfold Ob.ok at I;have wl:∀{o:Ob},o∈walls bx->o=wN bx\/o=wE bx\/o=wS bx\/o=wW bx:=λ{o} h=>by simpa[walls] using h
 by_cases A:x.t < bx.t
 ·have room:∀y∈l,y∈os/\Up x y:=λy w=>by
   obtain⟨f,d⟩:=(u y).mp w;refine⟨?_,d⟩
   rcases f with h | h
   ·exact h
   ·exfalso;unfold Up at d
    rcases wl h with rfl | rfl | rfl | rfl <;> simp only[wN,wE,wS,wW] at d <;> omega
  have at_:∀{z:Ob},z∈os->Up x z->∃j,l[j]? = some z:=λ{z} k n=>by
   obtain⟨j,g,e⟩:=nk ((u z).mpr ⟨.inl k,n⟩);exact⟨j,by rw[cm g,e]⟩
  refine⟨?_,?_,?_,?_⟩
  ·obtain⟨y,w,J,_⟩:=T.cover hx A (p:=x.l) (by lia) (by omega)
   exact λz=>by
    have:=(u y).mpr ⟨.inl w,J⟩;rw[z] at this;cases this
  ·intro i a b c q;obtain⟨m,s⟩:=room a (eK c);obtain⟨D,E⟩:=room b (eK q);have K:=T.aE a m;have jb:=T.aE b D;have F:a≠b:=λe=>by
    subst e;have f:=(bc.mp c);have d:=(bc.mp q);obtain⟨f,B⟩:=f;obtain⟨d,C⟩:=d;have:=lb.mp nd i (i + 1) f d (by lia)
    simp only[B,C] at this;exact this rfl
   have sab:=v i (i + 1) a b (by lia) c q
   have ap:=(T.ap a m b D).resolve_left F;have hle:a.r<=b.l:=by
    unfold Apart at ap;unfold Up at s E;omega
   obtain⟨z,k,n,G⟩:=T.next hx A m s (by unfold Up at E;omega)
   obtain⟨j,g⟩:=at_ k n
   by_cases H:j<=i
   ·have:=v j i z a H g c;omega
   ·have:=v (i + 1) j b z (by lia) q g
    lia
  ·intro a c;obtain⟨m,s⟩:=room a (eK c);refine Ua λh=>?_
   obtain⟨z,k,n,G⟩:=T.prev hx A m s (by omega)
   obtain⟨j,g⟩:=at_ k n;have:=v 0 j a z (by lia) c g
   have jz:=T.aE z k;omega
  ·intro a c;obtain⟨m,s⟩:=room a (eK c);refine Ua λh=>?_
   obtain⟨z,k,n,G⟩:=T.next hx A m s (by omega)
   obtain⟨j,g⟩:=at_ k n;have hjl:=(bc.mp g).1;have:=v j (l.length - 1) z a (by omega) g c
   have K:=T.aE a m;omega
 ·have only:∀y∈l,y=wN bx:=λy w=>by
   obtain⟨f,d⟩:=(u y).mp w;unfold Up at d
   rcases f with h | h
   ·have:=T.aE y h;omega
   ·rcases wl h with rfl | rfl | rfl | rfl
    ·rfl
    all_goals exfalso;simp only[wN,wE,wS,wW] at d;omega
  have there:wN bx∈l:=(u _).mpr ⟨.inr (by simp[walls]),by delta Up wN;dsimp only;omega⟩
  refine⟨λz=>(by rw[z] at there;cases there),?_,?_,?_⟩
  ·intro i a b c q;exfalso;have L:=only a (eK c);have M:=only b (eK q);obtain⟨f,B⟩:=bc.mp c;obtain⟨d,C⟩:=bc.mp q;have:=lb.mp nd i (i + 1) f d (by lia)
   simp only[B,C,L,M] at this;exact this rfl
  ·intro a c;rw[only a (eK c)];simp only[wN];omega
  ·intro a c;rw[only a (eK c)];simp only[wN];omega
def oK (k):Nb (aa k bx) (os.map (aa k)) (aa k y) ↔ Nb bx os y:=by
 have wl:∀k y,aa k y∈walls (aa k bx)->y∈walls bx:=λk=>by
  induction k with
  | zero=>exact λy h=>h
  | succ k j =>
   intro y h;refine j y ?_;have h:ae (aa k y)∈walls (ae (aa k bx)):=h;generalize aa k y=a at h;generalize aa k bx=c at h;have h:ae a=wN (ae c)\/ae a=wE (ae c)\/ae a=wS (ae c)\/ae a=wW (ae c):=by simpa[walls] using h
   have:a=wE c\/a=wS c\/a=wW c\/a=wN c:=by
    rcases h with h | h | h | h
    ·left;have d:=congrArg Ob.l h;have f:=congrArg Ob.b h;have g:=congrArg Ob.r h;have i:=congrArg Ob.t h;simp only[ae,wN] at d f g i;exact g9 (by simp only[wE];omega) (by simp only[wE];omega) (by simp only[wE];omega) (by simp only[wE];omega)
    ·right;left;have d:=congrArg Ob.l h;have f:=congrArg Ob.b h;have g:=congrArg Ob.r h;have i:=congrArg Ob.t h;simp only[ae,wE] at d f g i;exact g9 (by simp only[wS];omega) (by simp only[wS];lia) (by simp only[wS];omega) (by simp only[wS];lia)
    ·right;right;left;have d:=congrArg Ob.l h;have f:=congrArg Ob.b h;have g:=congrArg Ob.r h;have i:=congrArg Ob.t h;simp only[ae,wS] at d f g i;exact g9 (by simp only[wW];omega) (by simp only[wW];omega) (by simp only[wW];omega) (by simp only[wW];omega)
    ·right;right;right;have d:=congrArg Ob.l h;have f:=congrArg Ob.b h;have g:=congrArg Ob.r h;have i:=congrArg Ob.t h;simp only[ae,wW] at d f g i;exact g9 (by simp only[wN];omega) (by simp only[wN];lia) (by simp only[wN];omega) (by simp only[wN];lia)
   rcases this with rfl | rfl | rfl | rfl <;> simp[walls]
 unfold Nb;constructor
 ·rintro (h | h)
  ·obtain⟨z,m,e⟩:=a9.mp h;rw[<- gA k e];exact .inl m
  ·exact .inr (wl k y h)
 ·rintro (h | h)
  ·exact .inl (a9.mpr ⟨y,h,rfl⟩)
  ·exact .inr (pX h k)
def kA (k:Nat) (h:bx.ok):(aa k bx).ok:=lI k h
def uv (k) (hk:k < 4) (o):∃y,aa k y=o:=by
 have a:=mv;have b:k=0\/k=1\/k=2\/k=3:=by lia
 rcases b with rfl | rfl | rfl | rfl
 ·exact⟨o,rfl⟩
 ·exact⟨ae (ae (ae o)),a o⟩
 ·exact⟨ae (ae o),a o⟩
 ·exact⟨ae o,a o⟩
def az.chain (T:az bx os) (p:bx.ok) (hx:x∈os) (nd:(os++walls bx).Nodup)(q:k < 4):bI (os++walls bx) x k≠[]/\(∀(i:Nat) a b,(bI (os++walls bx) x k)[i]? = some a->(bI (os++walls bx) x k)[i + 1]? = some b->(aa k a).r=(aa k b).l) /\
  (∀a,(bI (os++walls bx) x k)[0]? = some a->(aa k a).l<=(aa k x).l)/\(∀a,(bI (os++walls bx) x k)[(bI (os++walls bx) x k).length - 1]? = some a->(aa k x).r<=(aa k a).r):=by
 have s:(bI (os++walls bx) x k).Nodup:=(gp _ _).nodup_iff.mpr (j2 ma nd);have key:=(T.turns k).FA (kA k p) (x:=aa k x) (a9.mpr ⟨x,hx,rfl⟩) (l:=(bI (os++walls bx) x k).map (aa k)) (λy=>by
  obtain⟨z,rfl⟩:=uv k q y;rw[oK,a9];constructor
  ·rintro⟨w,hw,e⟩;rw[gA k e] at hw;obtain⟨f,g⟩:=fN.mp hw;exact⟨ee.mp f,g⟩
  ·rintro⟨f,g⟩;exact⟨z,fN.mpr ⟨ee.mpr f,g⟩,rfl⟩) (hF.mpr (s.imp λh e=>h (gA k e))) (λi j a b m c d=>by
  rw[cn] at c d;obtain⟨a',n,rfl⟩:=g0.mp c;obtain⟨b',o,rfl⟩:=g0.mp d;exact Kn m n o)
 obtain⟨t,u,v,A⟩:=key;refine⟨λz=>t (by rw[z];rfl),λi a b c d=>u i _ _ (by rw[cn,c];rfl) (by rw[cn,d];rfl),λa c=>v _ (by rw[cn,c];rfl),λa c=>A _ (by rw[a8,cn,c];rfl)⟩
end
end Tl
end
section
namespace Tl
open Hs
noncomputable def o9 (R:c->c->Prop)(l:List c):Prop:=∀(i:Nat) a b,l[i]? = some a->l[i + 1]? = some b->R a b
def uN (g:o9 R A)(j:o9 R B)(h:∀a b,A[A.length - 1]? = some a->B[0]? = some b->R a b):o9 R (A++B):=by
 intro i a b c d
 by_cases k:i + 1 < A.length
 ·rw[hH (by omega)] at c
  rw[hH k] at d;exact g i a b c d
 ·by_cases l:i < A.length
  ·have e:i=A.length - 1:=by omega
   rw[hH l,e] at c;rw[hO (by omega),show i + 1 - A.length=0 from by omega] at d
   exact h a b c d
  ·rw[hO (by omega)] at c d
   exact j (i - A.length) a b c (by rw[show i - A.length + 1=i + 1 - A.length from by omega];exact d)
def uD (b:B≠[]):(A++B)[(A++B).length - 1]? = B[B.length - 1]?:=by
 have:=ka.mpr b;rw[hO (by rw[eJ];omega),eJ]
 congr 1
 lia
def EM (b:A≠[]):(A++B)[0]? = A[0]?:=by
 have:=ka.mpr b;rw[hH this]
section
variable {bx:Ob}{os:List Ob}{x n m:Ob}
def az.rQ (T:az bx os) (f:bx.ok) (hx:x∈os) (nd:(os++walls bx).Nodup)(c:k < 4):o9 (cv x) (bI (os++walls bx) x k):=by
 intro i a b d e;refine⟨k,c,.inl ⟨(fN.mp (eK d)).2,(fN.mp (eK e)).2,(T.chain f hx nd c).2.1 i a b d e⟩⟩
def az.qm (T:az bx os) (d:bx.ok) (hx:x∈os) (nd:(os++walls bx).Nodup)(e:k < 4)(h:j < 4)(c:∀o,aa j o=ae (aa k o))(f:(bI (os++walls bx) x k)[(bI (os++walls bx) x k).length - 1]? = some a)(g:(bI (os++walls bx) x j)[0]? = some b):cv x a b:=by
 refine⟨k,e,.inr ⟨(fN.mp (eK f)).2,(T.chain d hx nd e).2.2.2 a f,?_,?_⟩⟩
 ·simp only[<- c,<- c];exact (fN.mp (eK g)).2
 ·have:=(T.chain d hx nd h).2.2.1 b g;rw[c,c] at this;simp only[ae] at this
  lia
def az.uo (T:az bx os) (c:bx.ok) (hx:x∈os) (nd:(os++walls bx).Nodup)(d:(bj (os++walls bx) x)[i]? = some a)(f:(bj (os++walls bx) x)[(i + 1) % (bj (os++walls bx) x).length]? = some b):cv x a b:=by
 have s:=(T.chain c hx nd (k:=0) (by decide)).1
 have n1:=(T.chain c hx nd (k:=1) (by decide)).1
 have n2:=(T.chain c hx nd (k:=2) (by decide)).1
 have n3:=(T.chain c hx nd (k:=3) (by decide)).1
 have g:∀a b,(bI (os++walls bx) x 0)[(bI (os++walls bx) x 0).length - 1]? = some a->(bI (os++walls bx) x 1)[0]? = some b->cv x a b:=λa b=>T.qm c hx nd (by decide) (by decide) λo=>rfl
 have l:∀a b,(bI (os++walls bx) x 1)[(bI (os++walls bx) x 1).length - 1]? = some a->(bI (os++walls bx) x 2)[0]? = some b->cv x a b:=λa b=>T.qm c hx nd (by decide) (by decide) λo=>rfl
 have p:∀a b,(bI (os++walls bx) x 2)[(bI (os++walls bx) x 2).length - 1]? = some a->(bI (os++walls bx) x 3)[0]? = some b->cv x a b:=λa b=>T.qm c hx nd (by decide) (by decide) λo=>rfl
 have q:∀a b,(bI (os++walls bx) x 3)[(bI (os++walls bx) x 3).length - 1]? = some a->(bI (os++walls bx) x 0)[0]? = some b->cv x a b:=λa b=>T.qm c hx nd (k:=3) (j:=0) (by decide) (by decide) λo=>(mv o).symm
 have r:o9 (cv x) (bj (os++walls bx) x):=by
  unfold bj;refine uN (uN (uN (T.rQ c hx nd (by decide)) (T.rQ c hx nd (by decide)) g) (T.rQ c hx nd (by decide)) λa b d f=>?_) (T.rQ c hx nd (by decide)) λa b d f=>?_
  ·rw[uD n1] at d;exact l a b d f
  ·rw[uD n2] at d;exact p a b d f
 have hi:=(bc.mp d).1
 by_cases h:i + 1 < (bj (os++walls bx) x).length
 ·rw[kx h] at f;exact r i a b d f
 ·have e:i + 1=(bj (os++walls bx) x).length:=by lia
  rw[e,yv] at f;have t:i=(bj (os++walls bx) x).length - 1:=by lia
  rw[t] at d;refine q a b ?_ ?_
  ·have:=uD (A:=bI (os++walls bx) x 0++bI (os++walls bx) x 1++bI (os++walls bx) x 2) n3;rw[<- this];exact d
  ·have u:(bj (os++walls bx) x)[0]? = (bI (os++walls bx) x 0)[0]?:=by
    unfold bj;rw[mu,mu,EM s]
   rw[<- u];exact f
def gN:y∈bj N x ↔ y∈N/\∃k,k < 4/\Up (aa k x) (aa k y):=by
 unfold bj;simp only[ee,ee,ee,fN,fN,fN,fN];constructor
 ·rintro (((h | h) | h) | h)
  ·exact⟨h.1,0,by decide,h.2⟩
  ·exact⟨h.1,1,by decide,h.2⟩
  ·exact⟨h.1,2,by decide,h.2⟩
  ·exact⟨h.1,3,by decide,h.2⟩
 ·rintro⟨h,k,hk,u⟩;have a:k=0\/k=1\/k=2\/k=3:=by lia
  rcases a with rfl | rfl | rfl | rfl
  ·exact .inl (.inl (.inl ⟨h,u⟩))
  ·exact .inl (.inl (.inr ⟨h,u⟩))
  ·exact .inl (.inr ⟨h,u⟩)
  ·exact .inr ⟨h,u⟩
def az.J6 (T:az bx os) (g:bx.ok) (hx:x∈os) (nd:(os++walls bx).Nodup):(bj (os++walls bx) x).Nodup:=by
 have f:∀k,(bI (os++walls bx) x k).Nodup:=λk=>(gp _ _).nodup_iff.mpr (j2 ma nd)
 have i:x.l < x.r/\x.b < x.t:=Nb.ok T g (.inl hx);have cz:∀{j k:Nat},j < 4->k < 4->j≠k->∀a∈bI (os++walls bx) x j,∀b∈bI (os++walls bx) x k,a≠b:=λ{j k} o p h a c b d e=>by
  subst e;obtain⟨q,s⟩:=fN.mp c;obtain⟨h2,u⟩:=fN.mp d;exact h (B7 o p i (Nb.ok T g (ee.mp q)) s u)
 unfold bj;rw[ia,ia,ia];refine⟨⟨⟨f 0,f 1,cz (by decide) (by decide) (by decide)⟩,f 2,λa c b d=>?_⟩,f 3,λa c b d=>?_⟩
 ·rcases ee.mp c with c | c
  ·exact cz (by decide) (by decide) (by decide) a c b d
  ·exact cz (by decide) (by decide) (by decide) a c b d
 ·rcases ee.mp c with c | c
  ·rcases ee.mp c with c | c
   ·exact cz (by decide) (by decide) (by decide) a c b d
   ·exact cz (by decide) (by decide) (by decide) a c b d
  ·exact cz (by decide) (by decide) (by decide) a c b d
noncomputable def aD (l:List a)(n m:a):Prop:=∃i,l[i]? = some n/\l[(i + 1) % l.length]? = some m
def az.dC (T:az bx os) (b:bx.ok) (hx:x∈os) (nd:(os++walls bx).Nodup) (c:Nb bx os n) (j:Nb bx os m):aD (bj (os++walls bx) x) n m ↔ cv x n m:=by
 constructor
 ·rintro⟨i,l,o⟩;exact T.uo b hx nd l o
 ·intro h;have p:n∈bj (os++walls bx) x:=by
   obtain⟨k,q,f⟩:=h;exact gN.mpr ⟨ee.mpr c,k,q,f.up⟩
  obtain⟨i,r,e⟩:=nk p;have e:(bj (os++walls bx) x)[i]? = some n:=by rw[cm r,e]
  have d:(i + 1) % (bj (os++walls bx) x).length < (bj (os++walls bx) x).length:=Vw _ (by lia)
  have a:=cm d;generalize (bj (os++walls bx) x)[(i + 1) % (bj (os++walls bx) x).length]=s at a;have t:=T.uo b hx nd e a;have g:Nb bx os s:=ee.mp (gN.mp (eK a)).1;have:=T.GX b hx c j g h t;subst this;exact⟨i,e,a⟩
def az.corners (T:az bx os) (c:bx.ok) (hx:x∈os) (nd:(os++walls bx).Nodup) (h:aD (bj (os++walls bx) x) n m):(n∈os->aD (bj (os++walls bx) n) m x)/\(m∈os->aD (bj (os++walls bx) m) x n):=by
 have d:Nb bx os n:=by
  obtain⟨i,e,_⟩:=h;exact ee.mp (gN.mp (eK e)).1
 have f:Nb bx os m:=by
  obtain⟨i,_,e⟩:=h;exact ee.mp (gN.mp (eK e)).1
 obtain⟨a,b⟩:=T.close hx ((T.dC c hx nd d f).mp h) d f;exact⟨λz=>(T.dC c z nd f (.inl hx)).mpr (a z),λz=>(T.dC c z nd (.inl hx) d).mpr (b z)⟩
end
end Tl
end
section
namespace Tl
open Hs
noncomputable def aw (f:b->Nat):List b->Nat
 | []=>0
 | a::l=>f a + aw f l
theorem sC (f):∀l b:List c,aw f (l++b)=aw f l + aw f b
 | [],b=>by simp[aw]
 | a::l,b=>by
  show f a + aw f (l++b)=f a + aw f l + aw f b;rw[sC f l b]
  lia
theorem cC:∀{l:List c},(∀a∈l,f a=g a)->aw f l=aw g l
 | [],_=>rfl
 | a::l,h=>by
  show f a + aw f l=g a + aw g l;rw[h a (by simp),cC λb d=>h b (by simp[d])]
theorem fU (f g):∀l:List b,aw (λa=>f a + g a) l=aw f l + aw g l
 | []=>rfl
 | a::l=>by
  show f a + g a + aw (λa=>f a + g a) l=f a + aw f l + (g a + aw g l)
  rw[fU f g l]
  lia
theorem ow (c):∀l:List b,aw (λ_=>c) l=c * l.length
 | []=>rfl
 | a::l=>by
  show c + aw (λ_=>c) l=c * (l.length + 1)
  simp only[ow c l,Nat.mul_add]
  lia
theorem rO (p):∀l:List b,aw (λa=>if p a=true then 1 else 0) l=l.countP p
 | []=>rfl
 | a::l=>by
  show (if p a=true then 1 else 0) + aw (λa=>if p a=true then 1 else 0) l=_
  simp only[rO p l,hY]
  lia
theorem qJ (p:d->e->Bool)(l:List d)(c:List e):aw (λa=>c.countP (p a)) l=aw (λb=>l.countP λa=>p a b) c:=by
 induction l with
 | nil =>
  show 0=_;simp only[show aw (λb=>WV (λa=>p a b) []) c=aw (λ_=>0) c from rfl,ow,Nat.zero_mul]
 | cons a l f =>
  show c.countP (p a) + aw (λa=>c.countP (p a)) l=_
  rw[f,<- rO,<- fU];refine cC λb _=>?_
  simp only[hY]
  lia
theorem fw (p q:b->Bool)(l:List b):l.countP p=(l.countP λa=>p a && q a) + l.countP λa=>p a && !q a:=by
 induction l with
 | nil=>rfl
 | cons a l c =>
  simp only[hY,hY,hY,c];cases p a <;> cases q a <;> simp <;> lia
theorem k8 {i:Type}{p:i->Bool}{l:List i}(nd:l.Nodup) (ex:∃a∈l,p a=true) (un:∀a∈l,∀b∈l,p a=true->p b=true->a=b):l.countP p=1:=by
 induction l with
 | nil=>obtain⟨a,h,_⟩:=ex;cases h
 | cons c l k =>
  rw[ib] at nd;rw[hY]
  by_cases e:p c=true
  ·rw[if_pos e];have:l.countP p=0:=by
    rw[mo];intro b f j;have:=un c (by simp) b (by simp[f]) e j
    subst this;exact nd.1 f
   lia
  ·rw[if_neg e];obtain⟨a,d,g⟩:=ex
   rcases cR.mp d with rfl | d
   ·exact absurd g e
   ·rw[k nd.2 ⟨a,d,g⟩ λa d b f=>un a (by simp[d]) b (by simp[f])]
section
variable {bx:Ob}{os:List Ob}{x z n m:Ob}
def az.tI (T:az bx os) (f:bx.ok) (c:Nb bx os z) (hx:x∈os) (u:Up z x)(h1:z.l<=p)(h2:p < z.r):∃y∈os,Up z y/\y.l<=p/\p < y.r:=by
 have ix:=T.aE x hx;have oz:=Nb.ok T f c;have wl:∀{o:Ob},o∈walls bx->o=wN bx\/o=wE bx\/o=wS bx\/o=wW bx:=λ{o} h=>by simpa[walls] using h
 have hb:bx.l<=z.l/\z.r<=bx.r/\bx.b<=z.t/\z.t < bx.t:=by
  unfold Up at u
  rcases c with h | h
  ·have:=T.aE z h;omega
  ·rcases wl h with rfl | rfl | rfl | rfl <;> simp only[wN,wE,wS,wW] at u ⊢ <;> omega
 obtain⟨y,d,g,i,k3,k4⟩:=T.hit p z.t (by omega) (by omega) (by omega) (by omega)
 have iy:=T.aE y d;refine⟨y,d,?_,g,i⟩;unfold Up
 rcases Nb.ap T f c (.inl d) with e | a
 ·subst e
  lia
 ·unfold Apart at a
  lia
def az.firsts (T:az bx os) (g:bx.ok) (nd:os.Nodup) (i:Nb bx os z):(os.countP λx=>decide (Up z x) && decide (z.l < x.l))=os.countP λx=>decide (Up z x) && decide (x.r < z.r):=by
 by_cases h:∃x∈os,Up z x
 ·obtain⟨x,hx,u⟩:=h;have t:=Nb.ok T g i;have v:=fw (λx=>decide (Up z x)) (λx=>decide (z.l < x.l)) os
  have w:=fw (λx=>decide (Up z x)) (λx=>decide (x.r < z.r)) os
  have A:(os.countP λa=>decide (Up z a) && !decide (z.l < a.l))=1:=by
   refine k8 nd ?_ ?_
   ·obtain⟨y,j,k,B,C⟩:=T.tI g i hx u (p:=z.l) (by lia) t.1
    exact⟨y,j,by simp[k];omega⟩
   ·intro a c b d e f;simp only[dV,decide_eq_true_eq,nq,decide_eq_false_iff_not] at e f;have D:=T.aE a c;have E:=T.aE b d;refine (T.ap a c b d).resolve_right λq=>?_
    unfold Apart at q;unfold Up at e f;omega
  have F:(os.countP λa=>decide (Up z a) && !decide (a.r < z.r))=1:=by
   refine k8 nd ?_ ?_
   ·obtain⟨y,j,k,B,C⟩:=T.tI g i hx u (p:=z.r - 1) (by lia) (by lia)
    exact⟨y,j,by simp[k];lia⟩
   ·intro a c b d e f;simp only[dV,decide_eq_true_eq,nq,decide_eq_false_iff_not] at e f;have D:=T.aE a c;have E:=T.aE b d;refine (T.ap a c b d).resolve_right λq=>?_
    unfold Apart at q;unfold Up at e f;omega
  simp only[A] at v;rw[F] at w
  lia
 ·have o:∀q:Ob->Bool,(os.countP λx=>decide (Up z x) && q x)=0:=λq=>by
   rw[mo];intro x hx s;rw[dV,decide_eq_true_eq] at s;exact h ⟨x,hx,s.1⟩
  simp only[o,o]
def az.GD (T:az bx os) (f:bx.ok) (hx:x∈os) {N:List Ob}(c:∀y,y∈N ↔ Nb bx os y) (nd:N.Nodup) :
  (N.countP λz=>decide (Up x z) && decide (x.r < z.r)) + (N.countP λz=>decide (Up (ae x) (ae z)) && decide ((ae z).l < (ae x).l)) + (if x.t=bx.t/\x.r=bx.r then 1 else 0)=1:=by
 have i:=T.aE x hx;have ox:x.l < x.r/\x.b < x.t:=⟨i.2.1,i.2.2.2.2.1⟩;have wl:∀{o:Ob},o∈walls bx->o=wN bx\/o=wE bx\/o=wS bx\/o=wW bx:=λ{o} h=>by simpa[walls] using h
 have M:wN bx∈N:=(c _).mpr (.inr (by simp[walls]))
 have O:wE bx∈N:=(c _).mpr (.inr (by simp[walls]))
 have P:=f;unfold Ob.ok at P;have Q:∀a∈N,∀b∈N,(decide (Up x a) && decide (x.r < a.r))=true->(decide (Up x b) && decide (x.r < b.r))=true->a=b:=λa e b k d j=>by
  simp only[dV,decide_eq_true_eq] at d j;have E:=Nb.ok T f ((c a).mp e);have F:=Nb.ok T f ((c b).mp k);refine (Nb.ap T f ((c a).mp e) ((c b).mp k)).resolve_right λq=>?_
  unfold Apart at q;unfold Up at d j;omega
 have R:∀a∈N,∀b∈N,(decide (Up (ae x) (ae a)) && decide ((ae a).l < (ae x).l))=true->(decide (Up (ae x) (ae b)) && decide ((ae b).l < (ae x).l))=true->a=b:=λa e b k d j=>by
  simp only[dV,decide_eq_true_eq] at d j;have E:=Nb.ok T f ((c a).mp e);have F:=Nb.ok T f ((c b).mp k);refine (Nb.ap T f ((c a).mp e) ((c b).mp k)).resolve_right λq=>?_
  unfold Apart at q;unfold Up at d j;simp only[ae] at d j;omega
 obtain⟨n,A,un,Y⟩:∃n∈N,Up x n/\x.r<=n.r:=by
  by_cases S:x.t < bx.t
  ·obtain⟨y,G,H,U,Z⟩:=T.cover hx S (p:=x.r - 1) (by omega) (by lia)
   exact⟨y,(c y).mpr (.inl G),H,by lia⟩
  ·exact⟨wN bx,M,by delta Up wN;dsimp only;omega,by simp only[wN];omega⟩
 obtain⟨m,B,g,em⟩:∃m∈N,Up (ae x) (ae m)/\x.t<=m.t:=by
  by_cases S:x.r < bx.r
  ·obtain⟨y',V,H,U,Z⟩:=T.turn.cover (x:=ae x) (a9.mpr ⟨x,hx,rfl⟩) (by simp only[ae];omega) (p:=(ae x).l) (by lia) (by simp only[ae];omega)
   obtain⟨y,G,rfl⟩:=a9.mp V;exact⟨y,(c y).mpr (.inl G),H,by simp only[ae] at U;lia⟩
  ·exact⟨wE bx,O,by unfold Up;simp only[ae,wE];omega,by simp only[wE];omega⟩
 have W:∀{q:Ob->Bool},(∃a∈N,q a=true)->(∀a∈N,∀b∈N,q a=true->q b=true->a=b)->N.countP q=1:=λex un=>k8 nd ex un
 have c0:∀{q:Ob->Bool},(∀a∈N,q a≠true)->N.countP q=0:=λh=>mo.mpr h
 have C:∀a∈N,(decide (Up x a) && decide (x.r < a.r))=true->a=n:=λa e d=>by
  simp only[dV,decide_eq_true_eq] at d;have E:=Nb.ok T f ((c a).mp e);have F:=Nb.ok T f ((c n).mp A);refine (Nb.ap T f ((c a).mp e) ((c n).mp A)).resolve_right λq=>?_
  unfold Apart at q;unfold Up at d un;omega
 have D:∀a∈N,(decide (Up (ae x) (ae a)) && decide ((ae a).l < (ae x).l))=true->a=m:=λa e d=>by
  simp only[dV,decide_eq_true_eq] at d;have E:=Nb.ok T f ((c a).mp e);have F:=Nb.ok T f ((c m).mp B);refine (Nb.ap T f ((c a).mp e) ((c m).mp B)).resolve_right λq=>?_
  unfold Apart at q;unfold Up at d g;simp only[ae] at d g;omega
 have s:x.r < n.r->(N.countP λz=>decide (Up x z) && decide (x.r < z.r))=1:=λh=>W ⟨n,A,by simp[un,h]⟩ Q
 have u:¬x.r < n.r->(N.countP λz=>decide (Up x z) && decide (x.r < z.r))=0:=λh=>c0 λa e d=>by
  have:=C a e d;subst this;simp only[dV,decide_eq_true_eq] at d;exact h d.2
 have v:x.t < m.t->(N.countP λz=>decide (Up (ae x) (ae z)) && decide ((ae z).l < (ae x).l))=1:=λh=>W ⟨m,B,by simp only[dV,decide_eq_true_eq];exact⟨g,by simp only[ae];omega⟩⟩ R
 have w:¬x.t < m.t->(N.countP λz=>decide (Up (ae x) (ae z)) && decide ((ae z).l < (ae x).l))=0:=λh=>c0 λa e d=>by
  have:=D a e d;subst this;simp only[dV,decide_eq_true_eq] at d;have:=d.2;simp only[ae] at this
  lia
 rcases (c n).mp A with I | wn <;> rcases (c m).mp B with J | X
 ·have jn:=T.aE n I;have jm:=T.aE m J;rw[if_neg (by unfold Up at un;omega)]
  rcases T.tee hx I J un Y g em with⟨a,b⟩ | ⟨a,b⟩
  ·rw[s a,w (by lia)]
  ·rw[u (by lia),v b]
 ·have jn:=T.aE n I;obtain⟨rfl,K⟩:=lV X i g;have L:=un.1;rw[u (by omega),v (by have:=g.2.1;dsimp only[ae,wE] at this ⊢;omega),if_neg (by omega)]
 ·have jm:=T.aE m J;obtain⟨rfl,K⟩:=ju wn i un;have L:m.l=x.r:=g.1;rw[s (by have:=un.2.2;dsimp only[wN] at this ⊢;omega),w (by omega),if_neg (by omega)]
 ·obtain⟨rfl,L⟩:=ju wn i un;obtain⟨rfl,K⟩:=lV X i g;rw[u (by dsimp only[wN];omega),w (by dsimp only[wE];omega),if_pos ⟨L,K⟩]
end
end Tl
end
section
namespace Tl
open Hs
noncomputable def nf (k:Nat) (z x:Ob):Bool:=decide (Up (aa k z) (aa k x)) && decide ((aa k z).l < (aa k x).l)
noncomputable def nl (k:Nat) (z x:Ob):Bool:=decide (Up (aa k z) (aa k x)) && decide ((aa k x).r < (aa k z).r)
noncomputable def on (k:Nat) (z x:Ob):Bool:=decide (Up (aa k z) (aa k x))
def vT (z x):Up z x ↔ Up (ae (ae x)) (ae (ae z)):=by
 unfold Up;simp only[ae]
 lia
noncomputable def ex (k:Nat) (x z:Ob):Bool:=decide (Up (aa k x) (aa k z)) && decide ((aa k x).r < (aa k z).r)
noncomputable def st (k:Nat) (x z:Ob):Bool:=decide (Up (aa k x) (aa k z)) && decide ((aa k z).l < (aa k x).l)
def NY (z x):nf 0 z x=ex 2 x z:=by
 unfold nf ex;simp only[show decide (Up (aa 0 z) (aa 0 x))=decide (Up (aa 2 x) (aa 2 z)) from decide_eq_decide.mpr (vT z x)]
 congr 1;refine decide_eq_decide.mpr ?_;simp only[aa,ae]
 lia
def K4 (z x):nl 0 z x=st 2 x z:=by
 unfold nl st;simp only[show decide (Up (aa 0 z) (aa 0 x))=decide (Up (aa 2 x) (aa 2 z)) from decide_eq_decide.mpr (vT z x)]
 congr 1;refine decide_eq_decide.mpr ?_;simp only[aa,ae]
 lia
def nH (k) (o):aa (k + 4) o=aa k o:=mv (aa k o)
theorem lB (j):∀(k:Nat) (o:Ob),aa (j + k) o=aa k (aa j o)
 | 0,_=>rfl
 | k + 1,o=>by
  show ae (aa (j + k) o)=ae (aa k (aa j o));rw[lB j k o]
def Gc (k) (z x):nf k z x=ex (k + 2) x z:=by
 have:=NY (aa k z) (aa k x);unfold nf ex at *;rw[lB k 2,lB k 2];exact this
def Kk (k) (z x):nl k z x=st (k + 2) x z:=by
 have:=K4 (aa k z) (aa k x);unfold nl st at *;rw[lB k 2,lB k 2];exact this
def IU (k) (x z):ex (k + 4) x z=ex k x z:=by unfold ex;rw[nH,nH]
def ot (k) (x z):st (k + 4) x z=st k x z:=by unfold st;rw[nH,nH]
section
variable {bx:Ob}{os:List Ob}{x z n m:Ob}
def qu (k:Nat) {l:List Ob}(h:l.Nodup):(l.map (aa k)).Nodup:=hF.mpr (h.imp λa e=>a (gA k e))
def az.Gm (T:az bx os) (a:bx.ok) (nd:os.Nodup) (b:Nb bx os z) (k:Nat):os.countP (nf k z)=os.countP (nl k z):=by
 have:=(T.turns k).firsts (kA k a) (qu k nd) ((oK k).mpr b);rw[ll,ll] at this;exact this
def az.corner (T:az bx os) (a:bx.ok) (hx:x∈os) (nd:(os++walls bx).Nodup)(b:k < 4) :
  (os++walls bx).countP (λz=>decide (Up (aa k x) (aa k z)) && decide ((aa k x).r < (aa k z).r)) + (os++walls bx).countP (λz=>decide (Up (aa (k + 1) x) (aa (k + 1) z)) && decide ((aa (k + 1) z).l < (aa (k + 1) x).l)) + (if (aa k x).t=(aa k bx).t/\(aa k x).r=(aa k bx).r then 1 else 0)=1:=by
 have:=(T.turns k).GD (kA k a) (x:=aa k x) (a9.mpr ⟨x,hx,rfl⟩) (N:=(os++walls bx).map (aa k)) (λy=>by
  obtain⟨z,rfl⟩:=uv k b y;rw[oK,a9];constructor
  ·rintro⟨w,hw,e⟩;simp only[gA k e] at hw;exact ee.mp hw
  ·exact λh=>⟨z,ee.mpr h,rfl⟩) (qu k nd)
 simp only[ll,ll] at this;exact this
def az.outer (T:az bx os) (i:bx.ok) (nd:os.Nodup) (k:Nat):aw (λx=>if (aa k x).t=(aa k bx).t/\(aa k x).r=(aa k bx).r then 1 else 0) os=1:=by
 have c:=T.turns k;have f:=kA k i;have e:aw (λx=>if (aa k x).t=(aa k bx).t/\(aa k x).r=(aa k bx).r then 1 else 0) os=os.countP λx=>decide ((aa k x).t=(aa k bx).t/\(aa k x).r=(aa k bx).r):=by
  rw[<- rO];exact cC λa _=>by simp
 rw[e];unfold Ob.ok at f;refine k8 nd ?_ ?_
 ·obtain⟨o,g,k1,k2,k3,k4⟩:=c.hit ((aa k bx).r - 1) ((aa k bx).t - 1) (by omega) (by lia) (by omega) (by lia)
  obtain⟨a,d,rfl⟩:=a9.mp g;have:=c.aE _ g;exact⟨a,d,by rw[decide_eq_true_eq];lia⟩
 ·intro a d b h j l;simp only[decide_eq_true_eq] at j l;have ja:=c.aE _ (a9.mpr ⟨a,d,rfl⟩);have jb:=c.aE _ (a9.mpr ⟨b,h,rfl⟩);refine gA k ((c.ap _ (a9.mpr ⟨a,d,rfl⟩) _ (a9.mpr ⟨b,h,rfl⟩)).resolve_right λq=>?_)
  unfold Apart at q;omega
noncomputable def bR (f:Nat->Nat):Nat:=f 0 + f 1 + f 2 + f 3
def xb (f:Nat->b->Nat)(l:List b):aw (λa=>bR λk=>f k a) l=bR λk=>aw (f k) l:=by
 unfold bR;rw[fU,fU,fU]
def az.pairs (T:az bx os) (i:bx.ok) (nd:(os++walls bx).Nodup):2 * aw (λz=>bR λk=>os.countP (nf k z)) (os++walls bx) + 4=4 * os.length:=by
 have e:os.Nodup:=(ia.mp nd).1;have b:∀k,aw (λz=>os.countP (nf k z)) (os++walls bx)=aw (λx=>(os++walls bx).countP (ex (k + 2) x)) os:=λk=>by
  rw[qJ];refine cC λx _=>?_
  congr 1;funext z;exact Gc k z x
 have d:∀k,aw (λz=>os.countP (nf k z)) (os++walls bx)=aw (λx=>(os++walls bx).countP (st (k + 2) x)) os:=λk=>by
  rw[cC (g:=λz=>os.countP (nl k z)) λz p=>T.Gm i e (ee.mp p) k,qJ]
  refine cC λx _=>?_
  congr 1;funext z;exact Kk k z x
 have o:∀k x,(os++walls bx).countP (ex (k + 4) x)=(os++walls bx).countP (ex k x):=λk x=>by
  congr 1;funext z;exact IU k x z
 have j:∀k x,(os++walls bx).countP (st (k + 4) x)=(os++walls bx).countP (st k x):=λk x=>by
  congr 1;funext z;exact ot k x z
 have c:∀k,k < 4->aw (λx=>(os++walls bx).countP (ex k x)) os + aw (λx=>(os++walls bx).countP (st (k + 1) x)) os + 1=os.length:=λk s=>by
  have a:=cC (l:=os) (f:=λx=>(os++walls bx).countP (ex k x) + (os++walls bx).countP (st (k + 1) x) + (if (aa k x).t=(aa k bx).t/\(aa k x).r=(aa k bx).r then 1 else 0)) (g:=λ_=>1) λx hx=>T.corner i hx nd s
  simp only[fU,fU,ow,T.outer i e k,Nat.one_mul] at a;exact a
 have c0:=c 0 (by decide)
 have c1:=c 1 (by decide)
 have c2:=c 2 (by decide)
 have u:=c 3 (by decide)
 have a0:=b 0;have a1:=b 1;have v:=b 2;have w:=b 3;have b0:=d 0;have b1:=d 1;have y:=d 2;have A:=d 3;rw[cC (g:=λx=>(os++walls bx).countP (ex 0 x)) λx _=>o 0 x] at v
 rw[cC (g:=λx=>(os++walls bx).countP (ex 1 x)) λx _=>o 1 x] at w
 rw[cC (g:=λx=>(os++walls bx).countP (st 0 x)) λx _=>j 0 x] at y
 rw[cC (g:=λx=>(os++walls bx).countP (st 1 x)) λx _=>j 1 x] at A
 rw[cC (g:=λx=>(os++walls bx).countP (st 0 x)) λx _=>j 0 x] at u
 rw[xb];dsimp only[bR];have z1:∀q,aw (λx=>(os++walls bx).countP (st (1 + 2) x)) os=q->aw (λx=>(os++walls bx).countP (st 3 x)) os=q:=λq h=>h
 have z2:∀q,aw (λx=>(os++walls bx).countP (ex (1 + 2) x)) os=q->aw (λx=>(os++walls bx).countP (ex 3 x)) os=q:=λq h=>h
 dsimp only[t9,YD] at *
 lia
end
end Tl
end
section
namespace Tl
open Hs
section
variable {bx:Ob}{os:List Ob}{x z n m:Ob}
def az.Le (T:az bx os) (c:bx.ok) (nd:os.Nodup) (d:Nb bx os z) (h:∃x∈os,Up z x):(os.countP λx=>decide (Up z x))=(os.countP λx=>decide (Up z x) && decide (z.l < x.l)) + 1:=by
 obtain⟨x,hx,u⟩:=h;have j:=Nb.ok T c d;rw[fw (λx=>decide (Up z x)) (λx=>decide (z.l < x.l)) os]
 congr 1;refine k8 nd ?_ ?_
 ·obtain⟨y,k,o,k1,k2⟩:=T.tI c d hx u (p:=z.l) (by lia) j.1
  exact⟨y,k,by simp[o];omega⟩
 ·intro a e b f g i;simp only[dV,decide_eq_true_eq,nq,decide_eq_false_iff_not] at g i;have ja:=T.aE a e;have jb:=T.aE b f;refine (T.ap a e b f).resolve_right λq=>?_
  unfold Apart at q;unfold Up at g i;omega
def az.Mb (T:az bx os) (a:bx.ok) (nd:os.Nodup) (b:Nb bx os z) (k:Nat) (h:∃x∈os,on k z x=true):os.countP (on k z)=os.countP (nf k z) + 1:=by
 have:=(T.turns k).Le (kA k a) (qu k nd) ((oK k).mpr b) (by
  obtain⟨x,hx,u⟩:=h;exact⟨aa k x,a9.mpr ⟨x,hx,rfl⟩,of_decide_eq_true u⟩)
 simp only[ll,ll] at this;exact this
def Ox (h:∀x∈os,on k z x=false):os.countP (on k z)=0/\os.countP (nf k z)=0:=by
 constructor
 ·rw[mo];intro x hx e;rw[h x hx] at e;cases e
 ·rw[mo];intro x hx e;have:nf k z x=(on k z x && decide ((aa k z).l < (aa k x).l)):=rfl;rw[this,h x hx] at e;cases e
def az.Jk (T:az bx os) (p:bx.ok) (nd:os.Nodup) (q:z∈walls bx):bR (λk=>os.countP (on k z))=bR (λk=>os.countP (nf k z)) + 1:=by
 have wl:z=wN bx\/z=wE bx\/z=wS bx\/z=wW bx:=by simpa[walls] using q
 have s:=p;unfold Ob.ok at s;obtain⟨a,d,a1,a2,a3,a4⟩:=T.hit bx.l bx.b (by lia) (by omega) (by lia) (by omega)
 obtain⟨b,e,b1,b2,b3,b4⟩:=T.hit (bx.r - 1) (bx.t - 1) (by omega) (by lia) (by omega) (by lia)
 have ja:=T.aE a d;have jb:=T.aE b e;have no:∀k,(∀x,(bx.l<=x.l/\x.l < x.r/\x.r<=bx.r/\bx.b<=x.b/\x.b < x.t/\x.t<=bx.t)->¬Up (aa k z) (aa k x))->os.countP (on k z)=0/\os.countP (nf k z)=0:=λk h=>Ox λx hx=>decide_eq_false (h x (T.aE x hx))
 have c:∀k,(∃x∈os,Up (aa k z) (aa k x))->os.countP (on k z)=os.countP (nf k z) + 1:=λk ⟨x,hx,u⟩=>T.Mb p nd (.inr q) k ⟨x,hx,decide_eq_true u⟩
 unfold bR;dsimp only
 rcases wl with rfl | rfl | rfl | rfl
 ·have f:=no 0 (λx i u=>by simp only[aa,ae,Up,wN] at u;omega)
  have g:=no 1 (λx i u=>by simp only[aa,ae,Up,wN] at u;omega)
  have j:=no 3 (λx i u=>by simp only[aa,ae,Up,wN] at u;omega)
  have o:=c 2 ⟨b,e,by simp only[aa,ae,Up,wN];omega⟩
  lia
 ·have f:=no 0 (λx i u=>by simp only[aa,ae,Up,wE] at u;omega)
  have g:=no 1 (λx i u=>by simp only[aa,ae,Up,wE] at u;omega)
  have o:=no 2 (λx i u=>by simp only[aa,ae,Up,wE] at u;omega)
  have j:=c 3 ⟨b,e,by simp only[aa,ae,Up,wE];omega⟩
  lia
 ·have g:=no 1 (λx i u=>by simp only[aa,ae,Up,wS] at u;omega)
  have o:=no 2 (λx i u=>by simp only[aa,ae,Up,wS] at u;omega)
  have j:=no 3 (λx i u=>by simp only[aa,ae,Up,wS] at u;omega)
  have f:=c 0 ⟨a,d,by simp only[aa,ae,Up,wS];omega⟩
  lia
 ·have f:=no 0 (λx i u=>by simp only[aa,ae,Up,wW] at u;omega)
  have o:=no 2 (λx i u=>by simp only[aa,ae,Up,wW] at u;omega)
  have j:=no 3 (λx i u=>by simp only[aa,ae,Up,wW] at u;omega)
  have g:=c 1 ⟨a,d,by simp only[aa,ae,Up,wW];omega⟩
  lia
def az.qv (T:az bx os) (c:bx.ok) (hx:x∈os) (nd:(os++walls bx).Nodup)(s:k < 4):(os++walls bx).countP (on k x)=os.countP (nf k x) + 1:=by
 obtain⟨ne,_,u,_⟩:=T.chain c hx nd s;have ox:x.l < x.r/\x.b < x.t:=Nb.ok T c (.inl hx);have sp:=fw (on k x) (λz=>decide ((aa k x).l < (aa k z).l)) (os++walls bx)
 have v:((os++walls bx).countP λa=>on k x a && !decide ((aa k x).l < (aa k a).l))=1:=by
  refine k8 nd ?_ ?_
  ·obtain⟨a,d⟩:∃a,(bI (os++walls bx) x k)[0]? = some a:=⟨_,cm (ka.mpr ne)⟩;have j:=fN.mp (eK d);have:=u a d;refine⟨a,j.1,?_⟩;unfold on;simp only[dV,decide_eq_true_eq,nq,decide_eq_false_iff_not];exact⟨j.2,by lia⟩
  ·intro a d b o f g;unfold on at f g;simp only[dV,decide_eq_true_eq,nq,decide_eq_false_iff_not] at f g;have oa:=lI k (Nb.ok T c (ee.mp d));have ob:=lI k (Nb.ok T c (ee.mp o));refine gA k ((xy k (Nb.ap T c (ee.mp d) (ee.mp o))).resolve_right λq=>?_)
   unfold Apart at q;unfold Up at f g;omega
 have y:((os++walls bx).countP λa=>on k x a && decide ((aa k x).l < (aa k a).l))=os.countP (nf k x):=by
  rw[k5];have:((walls bx).countP λa=>on k x a && decide ((aa k x).l < (aa k a).l))=0:=by
   rw[mo];intro w hw e;unfold on at e;simp only[dV,decide_eq_true_eq] at e;have i:=(T.turns k).aE _ (a9.mpr ⟨x,hx,rfl⟩);have h:=pX hw k;have p:=kA k c;unfold Ob.ok at p;have h:Tl.aa k w=wN (Tl.aa k bx)\/Tl.aa k w=wE (Tl.aa k bx)\/Tl.aa k w=wS (Tl.aa k bx)\/Tl.aa k w=wW (Tl.aa k bx):=by simpa[walls] using h
   unfold Up at e
   rcases h with q | q | q | q <;> rw[q] at e <;> simp only[wN,wE,wS,wW] at e <;> omega
  rw[this];rfl
 simp only[sp,v,y]
def Ay (z x) (k):on k z x=on (k + 2) x z:=by
 unfold on;rw[lB k 2,lB k 2];exact decide_eq_decide.mpr (vT _ _)
def zJ (k) (z x):on (k + 4) z x=on k z x:=by unfold on;rw[nH,nH]
def Jd (l:List Ob) (x:Ob):bR (λk=>l.countP λz=>on k z x)=bR λk=>l.countP (on k x):=by
 have e:∀k,(l.countP λz=>on k z x)=l.countP (on (k + 2) x):=λk=>by
  congr 1;funext z;exact Ay z x k
 have f:∀k,l.countP (on (k + 4) x)=l.countP (on k x):=λk=>by
  congr 1;funext z;exact zJ k x z
 unfold bR;dsimp only;simp only[e 0,e 1,e 2,e 3];have f0:=f 0;have f1:=f 1;dsimp only[t9,YD] at *
 lia
def az.ties (T:az bx os) (a:bx.ok) (nd:(os++walls bx).Nodup):aw (λx=>bR λk=>os.countP (on k x)) os + 2 * aw (λx=>bR λk=>(walls bx).countP (on k x)) os=6 * os.length + 2:=by
 have b:os.Nodup:=(ia.mp nd).1;have p:=T.pairs a nd;rw[sC] at p;have w1:aw (λz=>bR λk=>os.countP (on k z)) (walls bx)=aw (λz=>bR λk=>os.countP (nf k z)) (walls bx) + 4:=by
  simp only[cC (g:=λz=>(bR λk=>os.countP (nf k z)) + 1) λz c=>T.Jk a b c,fU,ow]
  rfl
 have w2:aw (λz=>bR λk=>os.countP (on k z)) (walls bx)=aw (λx=>bR λk=>(walls bx).countP (on k x)) os:=by
  rw[xb];have:∀k,aw (λz=>os.countP (on k z)) (walls bx)=aw (λx=>(walls bx).countP λz=>on k z x) os:=λk=>qJ _ _ _
  rw[show (bR λk=>aw (λz=>os.countP (on k z)) (walls bx))=bR λk=>aw (λx=>(walls bx).countP λz=>on k z x) os from congrArg bR (funext this),<- xb]
  exact cC λx _=>Jd _ x
 have r1:aw (λx=>bR λk=>(os++walls bx).countP (on k x)) os=aw (λx=>bR λk=>os.countP (nf k x)) os + 4 * os.length:=by
  rw[cC (g:=λx=>(bR λk=>os.countP (nf k x)) + 4) λx hx=>by
   unfold bR;dsimp only;simp only[T.qv a hx nd (k:=0) (by decide),T.qv a hx nd (k:=1) (by decide),T.qv a hx nd (k:=2) (by decide),T.qv a hx nd (k:=3) (by decide)]
   lia,fU,ow]
 have r2:aw (λx=>bR λk=>(os++walls bx).countP (on k x)) os=aw (λx=>bR λk=>os.countP (on k x)) os + aw (λx=>bR λk=>(walls bx).countP (on k x)) os:=by
  rw[<- fU];refine cC λx _=>?_
  unfold bR;dsimp only;simp only[k5,k5,k5,k5]
  lia
 lia
end
end Tl
end
section
namespace Tl
noncomputable def eZ (l:List a):List (a×a):=l.zip (l.drop 1++l.take 1)
section
variable {α:Type}
def AJ (l:List α)(h:i < l.length):(l.drop 1++l.take 1)[i]? = l[(i + 1) % l.length]?:=by
 by_cases a:i + 1 < l.length
 ·rw[hH (by rw[j1];omega),Vq,kx a,YS]
 ·have e:i + 1=l.length:=by omega
  rw[hO (by rw[j1];omega),e,yv,j1,show i - (l.length - 1)=0 from by omega]
  rw[Uj];simp
def uT (l:List α):(l.drop 1++l.take 1).length=l.length:=by
 simp only[eJ,j1,gg]
 lia
def xE {l:List α}{n m:α}:(n,m)∈eZ l ↔ aD l n m:=by
 unfold eZ aD;constructor
 ·intro h;obtain⟨i,b,e⟩:=nk h;have a:i < l.length:=by
   rw[UU,uT] at b
   lia
  have e:(l.zip (l.drop 1++l.take 1))[i]? = some (n,m):=by rw[cm b,e]
  rw[Ts] at e;exact⟨i,e.1,by rw[<- AJ l a];exact e.2⟩
 ·rintro⟨i,c,d⟩;have a:=(bc.mp c).1;refine eK (i:=i) ?_;rw[Ts];exact⟨c,by rw[AJ l a];exact d⟩
def sF (l:List α):(eZ l).map (·.1)=l:=by
 unfold eZ;exact List.map_fst_zip (by rw[uT];exact eS _)
def IC (l:List α):(eZ l).map (·.2)=l.drop 1++l.take 1:=by
 unfold eZ;exact VQ (by rw[uT];exact eS _)
def yW (l:List α):(eZ l).length=l.length:=by
 have:=congrArg List.length (sF l);rw[a8] at this;exact this
def OM (l:List α):(l.drop 1++l.take 1).Perm l:=List.perm_append_comm.trans (by rw[qt])
end
structure et {α:Type}(rooms walls:List α) (ring:α->List α):Prop where
 fS:rooms.Nodup
 cz:∀x∈rooms,x∉walls
 nd:∀x∈rooms,(ring x).Nodup
 len:∀x∈rooms,3<=(ring x).length
 mem:∀x∈rooms,∀y∈ring x,y∈rooms\/y∈walls
 eG:∀x∈rooms,x∉ring x
 sym:∀x∈rooms,∀y∈rooms,y∈ring x->x∈ring y
 fE:∀x∈rooms,∀n m,aD (ring x) n m->n∈rooms->aD (ring n) m x
 fI:∀x∈rooms,∀n m,aD (ring x) n m->m∈rooms->aD (ring m) x n
structure Order {α:Type}(lt:α->α->Bool):Prop where
 eG:∀a,lt a a=false
 tr:∀a b c,lt a b=true->lt b c=true->lt a c=true
 cP:∀a b,a≠b->lt a b=true\/lt b a=true
section
variable {α:Type}{rooms walls:List α}{ring:α->List α}
def aD.mem (h:aD l n m):n∈l/\m∈l:=by
 obtain⟨i,a,b⟩:=h;exact⟨eK a,eK b⟩
def jC {l:List α}(nd:l.Nodup) {i j:Nat}{a:α}(f:l[i]? = some a) (g:l[j]? = some a):i=j:=by
 obtain⟨b,c⟩:=bc.mp f;obtain⟨d,e⟩:=bc.mp g
 rcases Nat.lt_trichotomy i j with h | h | h
 ·have:=lb.mp nd i j b d h;rw[c,e] at this;exact absurd rfl this
 ·exact h
 ·have:=lb.mp nd j i d b h;simp only[c,e] at this;exact absurd rfl this
def aD.ne {l:List α}(nd:l.Nodup) (hl:3<=l.length) {n m:α}(h:aD l n m):n≠m:=by
 rintro rfl;obtain⟨i,a,b⟩:=h;have hi:=(bc.mp a).1;have:=jC nd a b
 by_cases c:i + 1 < l.length
 ·rw[kx c] at this
  lia
 ·rw[show i + 1=l.length from by lia,yv] at this
  lia
def aD.asymm {l:List α}(nd:l.Nodup) (hl:3<=l.length) {n m:α}(h:aD l n m) (h':aD l m n):False:=by
 obtain⟨i,b,g⟩:=h;obtain⟨j,c,k⟩:=h';have o:=(bc.mp b).1;have p:=(bc.mp c).1;have d:=jC nd c g;have e:=jC nd b k;have f:∀a,a < l.length->(a + 1) % l.length=if a + 1=l.length then 0 else a + 1:=λa ha=>by
  split
  ·rename_i h;rw[h,yv]
  ·exact kx (by lia)
 rw[f i o] at d;rw[f j p] at e;split at d <;> split at e <;> lia
noncomputable def corners (rooms:List α) (ring:α->List α):List (α×α×α):=rooms.flatMap λx=>(eZ (ring x)).map λp=>(x,p.1,p.2)
def d8:(x,n,m)∈corners rooms ring ↔ x∈rooms/\aD (ring x) n m:=by
 unfold corners;rw[XN];constructor
 ·rintro⟨y,a,h⟩;obtain⟨p,b,e⟩:=a9.mp h;cases e;exact⟨a,xE.mp b⟩
 ·rintro⟨hx,h⟩;exact⟨x,hx,a9.mpr ⟨(n,m),xE.mpr h,rfl⟩⟩
theorem uJ (f:a->List c)(p:c->Bool):∀l:List a,(l.flatMap f).countP p=aw (λb=>(f b).countP p) l
 | []=>rfl
 | b::l=>by
  rw[VB,k5,uJ f p l];rfl
def jk (C:et rooms walls ring):(corners rooms ring).Nodup:=by
 have key:∀l:List α,l.Nodup->(∀x∈l,(ring x).Nodup)->(corners l ring).Nodup:=by
  intro l;induction l with
  | nil=>intro _ _;exact za
  | cons a l g =>
   intro c d;rw[ib] at c;have e:corners (a::l) ring=((eZ (ring a)).map λp=>(a,p.1,p.2))++corners l ring:=by unfold corners;simp only[VB]
   rw[e,ia];refine⟨?_,g c.2 λx hx=>d x (by simp[hx]),?_⟩
   ·have h:(eZ (ring a)).Nodup:=by
     have:=d a (by simp)
     rw[<- sF (ring a)] at this;exact (hF.mp this).imp λb e=>b (by rw[e])
    refine hF.mpr (h.imp λb e=>b ?_)
    simp only[TU,true_and] at e;exact Zv e.1 e.2
   ·rintro⟨x,n,m⟩ i ⟨x',n',m'⟩ f e;cases e;obtain⟨p,_,e⟩:=a9.mp i;cases e;exact c.1 (d8.mp f).1
 exact key rooms C.fS C.nd
def count_map {c:Type}{l d:List c}(nd:l.Nodup) (f:d.Nodup) {g:c->c}(inj:∀a∈l,∀b∈l,g a=g b->a=b) (h:∀b,b∈d ↔ ∃a∈l,g a=b) (p:c->Bool):d.countP p=l.countP λa=>p (g a):=by
 have pm:d.Perm (l.map g):=(kH f (hF.mpr (nd.imp_of_mem λj k i e=>i (inj _ j _ k e)))).mpr λb=>by
  rw[h b,a9]
 rw[pm.countP_eq,ll];rfl
end
end Tl
end
section
namespace Tl
section
variable {α:Type} [DecidableEq α] {rooms walls:List α}{ring:α->List α}{lt:α->α->Bool}
noncomputable def ah (rooms:List α) (a:α):Bool:=decide (a∈rooms)
noncomputable def canon (rooms:List α) (lt:α->α->Bool) (c:α×α×α):Bool:=(!ah rooms c.2.1 || lt c.1 c.2.1) && (!ah rooms c.2.2 || lt c.1 c.2.2)
noncomputable def g3 (c:α×α×α):α×α×α:=(c.2.1,c.2.2,c.1)
def wJ (h:g3 a=g3 b):a=b:=by
 obtain⟨x,n,m⟩:=a;obtain⟨x',n',m'⟩:=b;simp only[g3,TU] at h;simp only[h.1,h.2.1,h.2.2]
theorem Bf:∀{l:List f},(∀a∈l,(p a=true/\q a=false/\s a=false)\/(p a=false/\q a=true/\s a=false)\/(p a=false/\q a=false/\s a=true))->l.countP p + l.countP q + l.countP s=l.length
 | [],_=>rfl
 | a::l,h=>by
  have:=Bf (l:=l) λb g=>h b (by simp[g])
  simp only[hY,hY,hY,fk]
  rcases h a (by simp) with⟨c,d,e⟩ | ⟨c,d,e⟩ | ⟨c,d,e⟩ <;> rw[c,d,e] <;> simp <;> lia
theorem yo:∀{l:List c},(∀a∈l,(p a=true/\q a=false)\/(p a=false/\q a=true))->l.countP p + l.countP q=l.length
 | [],_=>rfl
 | a::l,h=>by
  have:=yo (l:=l) λb f=>h b (by simp[f])
  simp only[hY,hY,fk]
  rcases h a (by simp) with⟨d,e⟩ | ⟨d,e⟩ <;> rw[d,e] <;> simp <;> lia
theorem Order.iL (O:Order lt)(h:lt a b=true):lt b a=false:=by
 cases e:lt b a with
 | false=>rfl
 | true =>
  have:=O.tr a b a h e;rw[O.eG] at this;cases this
def et.apart (C:et rooms walls ring)(hx:x∈rooms)(h:aD (ring x) n m):x≠n/\x≠m/\n≠m:=by
 have:=h.mem;exact⟨λe=>C.eG x hx (e ▸ this.1),λe=>C.eG x hx (e ▸ this.2),h.ne (C.nd x hx) (C.len x hx)⟩
def mL (p q:b->Bool)(l:List b):(l.filter p).countP q=l.countP λa=>p a && q a:=by
 rw[List.countP_filter];congr 1;funext a;rw[Vm]
def et.least (C:et rooms walls ring) (O:Order lt):3 * (corners rooms ring).countP (canon rooms lt)=aw (λx=>(ring x).countP (ah rooms)) rooms + 2 * aw (λx=>(ring x).countP λy=>!ah rooms y) rooms + (corners rooms ring).countP λc=>!ah rooms c.2.1 && !ah rooms c.2.2:=by
 have k:=jk C;generalize o:corners rooms ring=cs at *;have mem:∀{x n m:α},(x,n,m)∈cs ↔ x∈rooms/\aD (ring x) n m:=λ{x n m}=>by rw[<- o];exact d8
 have I:∀p:α->Bool,(cs.countP λc=>p c.2.1)=aw (λx=>(ring x).countP p) rooms:=λp=>by
  rw[<- o];unfold corners;rw[uJ];refine cC λx _=>?_
  rw[ll];have:=congrArg (WV p) (sF (ring x));rw[ll] at this;exact this
 have D:∀p:α->Bool,(cs.countP λc=>p c.2.2)=aw (λx=>(ring x).countP p) rooms:=λp=>by
  rw[<- o];unfold corners;rw[uJ];refine cC λx _=>?_
  rw[ll];have:=congrArg (WV p) (IC (ring x));simp only[ll,(OM (ring x)).countP_eq] at this;exact this
 have J:=fw (λc:α×α×α=>ah rooms c.2.1) (λc=>ah rooms c.2.2) cs
 have E:=fw (λc:α×α×α=>ah rooms c.2.2) (λc=>ah rooms c.2.1) cs
 have F:=fw (λc:α×α×α=>!ah rooms c.2.2) (λc=>ah rooms c.2.1) cs
 rw[I (ah rooms)] at J;rw[D (ah rooms)] at E;rw[D (λy=>!ah rooms y)] at F
 have K:(cs.countP λc=>ah rooms c.2.2 && ah rooms c.2.1)=cs.countP λc=>ah rooms c.2.1 && ah rooms c.2.2:=by congr 1;funext c;exact Vm _ _
 have L:(cs.countP λc=>!ah rooms c.2.2 && ah rooms c.2.1)=cs.countP λc=>ah rooms c.2.1 && !ah rooms c.2.2:=by congr 1;funext c;exact Vm _ _
 have M:(cs.countP λc=>!ah rooms c.2.2 && !ah rooms c.2.1)=cs.countP λc=>!ah rooms c.2.1 && !ah rooms c.2.2:=by congr 1;funext c;exact Vm _ _
 rw[K] at E;rw[L,M] at F;have k1:=fw (canon rooms lt) (λc=>ah rooms c.2.1) cs
 have N:=fw (λc=>canon rooms lt c && ah rooms c.2.1) (λc=>ah rooms c.2.2) cs
 have P:=fw (λc=>canon rooms lt c && !ah rooms c.2.1) (λc=>ah rooms c.2.2) cs
 have Q:(cs.countP λa=>canon rooms lt a && ah rooms a.2.1 && ah rooms a.2.2)=cs.countP λa=>(ah rooms a.2.1 && ah rooms a.2.2) && (lt a.1 a.2.1 && lt a.1 a.2.2):=by
  congr 1;funext c;unfold canon;cases ah rooms c.2.1 <;> cases ah rooms c.2.2 <;> simp
 have R:(cs.countP λa=>canon rooms lt a && ah rooms a.2.1 && !ah rooms a.2.2)=cs.countP λa=>(ah rooms a.2.1 && !ah rooms a.2.2) && lt a.1 a.2.1:=by
  congr 1;funext c;unfold canon;cases ah rooms c.2.1 <;> cases ah rooms c.2.2 <;> simp
 have S:(cs.countP λa=>canon rooms lt a && !ah rooms a.2.1 && ah rooms a.2.2)=cs.countP λa=>(!ah rooms a.2.1 && ah rooms a.2.2) && lt a.1 a.2.2:=by
  congr 1;funext c;unfold canon;cases ah rooms c.2.1 <;> cases ah rooms c.2.2 <;> simp
 have T:(cs.countP λa=>canon rooms lt a && !ah rooms a.2.1 && !ah rooms a.2.2)=cs.countP λa=>!ah rooms a.2.1 && !ah rooms a.2.2:=by
  congr 1;funext c;unfold canon;cases ah rooms c.2.1 <;> cases ah rooms c.2.2 <;> simp
 simp only[Q,R] at N;simp only[S,T] at P;have S3:3 * (cs.countP λa=>(ah rooms a.2.1 && ah rooms a.2.2) && (lt a.1 a.2.1 && lt a.1 a.2.2))=cs.countP λc=>ah rooms c.2.1 && ah rooms c.2.2:=by
  have i:(cs.filter λc=>ah rooms c.2.1 && ah rooms c.2.2).Nodup:=j2 ma k
  have j:∀{x n m:α},(x,n,m)∈cs.filter (λc=>ah rooms c.2.1 && ah rooms c.2.2) ↔ (x∈rooms/\aD (ring x) n m)/\n∈rooms/\m∈rooms:=λ{x n m}=>by
   rw[ft,mem];dsimp only[ah];simp
  have r:∀b,b∈cs.filter (λc=>ah rooms c.2.1 && ah rooms c.2.2) ↔ ∃a∈cs.filter (λc=>ah rooms c.2.1 && ah rooms c.2.2),g3 a=b:=by
   rintro⟨x,n,m⟩;constructor
   ·intro h;obtain⟨⟨hx,s⟩,d,f⟩:=j.mp h;exact⟨(m,x,n),j.mpr ⟨⟨f,C.fI x hx n m s f⟩,hx,d⟩,rfl⟩
   ·rintro⟨⟨U,V,W⟩,h,e⟩;cases e;obtain⟨⟨hx,s⟩,d,f⟩:=j.mp h;exact j.mpr ⟨⟨d,C.fE _ hx _ _ s d⟩,f,hx⟩
  have t:=count_map i i (λa _ b _ h=>wJ h) r λa=>lt a.1 a.2.1 && lt a.1 a.2.2
  have X:=count_map i i (λa _ b _ h=>wJ h) r λa=>lt (g3 a).1 (g3 a).2.1 && lt (g3 a).1 (g3 a).2.2
  have z:=Bf (l:=cs.filter λc=>ah rooms c.2.1 && ah rooms c.2.2) (p:=λa=>lt a.1 a.2.1 && lt a.1 a.2.2) (q:=λa=>lt (g3 a).1 (g3 a).2.1 && lt (g3 a).1 (g3 a).2.2) (s:=λa=>lt (g3 (g3 a)).1 (g3 (g3 a)).2.1 && lt (g3 (g3 a)).1 (g3 (g3 a)).2.2) (by
   rintro⟨x,n,m⟩ h;obtain⟨⟨hx,s⟩,d,f⟩:=j.mp h;obtain⟨A,Y,Z⟩:=C.apart hx s;show ((lt x n && lt x m)=true/\(lt n m && lt n x)=false/\(lt m x && lt m n)=false)\/((lt x n && lt x m)=false/\(lt n m && lt n x)=true/\(lt m x && lt m n)=false)\/((lt x n && lt x m)=false/\(lt n m && lt n x)=false/\(lt m x && lt m n)=true)
   rcases O.cP x n A with g | g <;> rcases O.cP x m Y with u | u <;> rcases O.cP n m Z with v | v <;> have q1:=O.iL g <;> have G:=O.iL u <;> have H:=O.iL v <;> simp[g,u,v,q1,G,H]
   ·have:=O.tr x n m g v;rw[G] at this;cases this
   ·have:=O.tr n x m g u;rw[H] at this;cases this)
  simp only[<- X,<- t] at z;rw[<- m4] at z;rw[mL] at z
  lia
 have S2:(cs.countP λa=>(ah rooms a.2.1 && !ah rooms a.2.2) && lt a.1 a.2.1) + (cs.countP λa=>(!ah rooms a.2.1 && ah rooms a.2.2) && lt a.1 a.2.2)=cs.countP λc=>ah rooms c.2.1 && !ah rooms c.2.2:=by
  have i:(cs.filter λc=>ah rooms c.2.1 && !ah rooms c.2.2).Nodup:=j2 ma k
  have B:(cs.filter λc=>!ah rooms c.2.1 && ah rooms c.2.2).Nodup:=j2 ma k
  have j:∀{x n m:α},(x,n,m)∈cs.filter (λc=>ah rooms c.2.1 && !ah rooms c.2.2) ↔ (x∈rooms/\aD (ring x) n m)/\n∈rooms/\m∉rooms:=λ{x n m}=>by
   rw[ft,mem];dsimp only[ah];simp
  have w:∀{x n m:α},(x,n,m)∈cs.filter (λc=>!ah rooms c.2.1 && ah rooms c.2.2) ↔ (x∈rooms/\aD (ring x) n m)/\n∉rooms/\m∈rooms:=λ{x n m}=>by
   rw[ft,mem];dsimp only[ah];simp
  have r:∀b,b∈cs.filter (λc=>!ah rooms c.2.1 && ah rooms c.2.2) ↔ ∃a∈cs.filter (λc=>ah rooms c.2.1 && !ah rooms c.2.2),g3 a=b:=by
   rintro⟨x,n,m⟩;constructor
   ·intro h;obtain⟨⟨hx,s⟩,d,f⟩:=w.mp h;exact⟨(m,x,n),j.mpr ⟨⟨f,C.fI x hx n m s f⟩,hx,d⟩,rfl⟩
   ·rintro⟨⟨U,V,W⟩,h,e⟩;cases e;obtain⟨⟨hx,s⟩,d,f⟩:=j.mp h;exact w.mpr ⟨⟨d,C.fE _ hx _ _ s d⟩,f,hx⟩
  have t:=count_map i B (λa _ b _ h=>wJ h) r λa=>lt a.1 a.2.2
  simp only[mL,mL] at t;rw[t,<- mL,<- mL,m4 (l:=cs)];refine yo ?_;rintro⟨x,n,m⟩ h;obtain⟨⟨hx,s⟩,d,f⟩:=j.mp h;obtain⟨A,_,_⟩:=C.apart hx s;show (lt x n=true/\lt n x=false)\/(lt x n=false/\lt n x=true)
  rcases O.cP x n A with g | g
  ·exact .inl ⟨g,O.iL g⟩
  ·exact .inr ⟨O.iL g,g⟩
 lia
end
end Tl
end
section
namespace Tl
section
variable {α:Type} [DecidableEq α] {rooms walls:List α}{ring:α->List α}{lt:α->α->Bool}
def g8:canon rooms lt (x,n,m)=true ↔ (n∈rooms->lt x n=true)/\(m∈rooms->lt x m=true):=by
 dsimp only[canon,ah]
 by_cases a:n∈rooms <;> by_cases b:m∈rooms <;> simp[a,b]
def ID (h:[a,b].Perm [c,d]):(a=c/\b=d)\/(a=d/\b=c):=by
 have e:a=c\/a=d:=by simpa using h.mem_iff.mp (show a∈[a,b] by simp)
 rcases e with rfl | rfl
 ·exact .inl ⟨rfl,by simpa using h.cons_inv⟩
 ·have h':[a,b].Perm [a,c]:=h.trans (List.Perm.swap _ _ _);exact .inr ⟨rfl,by simpa using h'.cons_inv⟩
def et.threes (C:et rooms walls ring) (O:Order lt) {B:Type}{key:α×α×α->B}(E:∀c∈corners rooms ring,∀b∈corners rooms ring,key c=key b ↔ [c.1,c.2.1,c.2.2].Perm [b.1,b.2.1,b.2.2]) {D:List B}(nd:D.Nodup) (R:∀k,k∈D ↔ ∃c∈corners rooms ring,key c=k) :
  D.length=(corners rooms ring).countP (canon rooms lt):=by
 have F:=jk C;have inj:∀c∈(corners rooms ring).filter (canon rooms lt),∀b∈(corners rooms ring).filter (canon rooms lt),key c=key b->c=b:=by
  rintro⟨x,n,m⟩ h ⟨i,y,A⟩ h' e;obtain⟨d,S⟩:=ft.mp h;obtain⟨v,G⟩:=ft.mp h';have p:=(E _ d _ v).mp e;obtain⟨hx,s⟩:=d8.mp d;obtain⟨j,s'⟩:=d8.mp v;obtain⟨H,I⟩:=g8.mp S;obtain⟨J,K⟩:=g8.mp G;have ex:x=i:=by
   have T:x=i\/x=y\/x=A:=by simpa using p.mem_iff.mp (show x∈[x,n,m] by simp)
   have L:i=x\/i=n\/i=m:=by simpa using p.mem_iff.mpr (show i∈[i,y,A] by simp)
   rcases T with h | h | h
   ·exact h
   ·have q:=J (h ▸ hx);rw[<- h] at q
    rcases L with k | k | k
    ·exact k.symm
    ·have:=H (k ▸ j);rw[<- k,O.iL q] at this;cases this
    ·have:=I (k ▸ j);rw[<- k,O.iL q] at this;cases this
   ·have q:=K (h ▸ hx);rw[<- h] at q
    rcases L with k | k | k
    ·exact k.symm
    ·have:=H (k ▸ j);rw[<- k,O.iL q] at this;cases this
    ·have:=I (k ▸ j);rw[<- k,O.iL q] at this;cases this
  subst ex
  rcases ID (show [n,m].Perm [y,A] from p.cons_inv) with⟨rfl,rfl⟩ | ⟨rfl,rfl⟩
  ·rfl
  ·exact (s.asymm (C.nd x hx) (C.len x hx) s').elim
 have pm:D.Perm (((corners rooms ring).filter (canon rooms lt)).map key):=(kH nd (hF.mpr ((j2 ma F).imp_of_mem λU V M e=>M (inj _ U _ V e)))).mpr λk=>by
  rw[R k,a9];constructor
  ·rintro⟨⟨x,n,m⟩,d,rfl⟩;obtain⟨hx,s⟩:=d8.mp d;obtain⟨N,P,W⟩:=C.apart hx s;have put:∀b,b∈corners rooms ring->canon rooms lt b=true->[b.1,b.2.1,b.2.2].Perm [x,n,m]->∃a∈(corners rooms ring).filter (canon rooms lt),key a=key (x,n,m):=λb Q X Y=>⟨b,ft.mpr ⟨Q,X⟩,(E _ Q _ d).mpr Y⟩
   have pn:[n,m,x].Perm [x,n,m]:=U1 (l₁:=[n,m]) (l₂:=[x]);have o:[m,x,n].Perm [x,n,m]:=U1 (l₁:=[m]) (l₂:=[x,n]);have w:n∈rooms->(n,m,x)∈corners rooms ring:=λh=>d8.mpr ⟨h,C.fE x hx n m s h⟩
   have r:m∈rooms->(m,x,n)∈corners rooms ring:=λh=>d8.mpr ⟨h,C.fI x hx n m s h⟩
   by_cases t:n∈rooms <;> by_cases l:m∈rooms
   ·rcases O.cP x n N with f | f
    ·rcases O.cP x m P with g | g
     ·exact put _ d (g8.mpr ⟨λ_=>f,λ_=>g⟩) (List.Perm.refl _)
     ·exact put _ (r l) (g8.mpr ⟨λ_=>g,λ_=>O.tr m x n g f⟩) o
    ·rcases O.cP n m W with u | u
     ·exact put _ (w t) (g8.mpr ⟨λ_=>u,λ_=>f⟩) pn
     ·exact put _ (r l) (g8.mpr ⟨λ_=>O.tr m n x u f,λ_=>u⟩) o
   ·rcases O.cP x n N with f | f
    ·exact put _ d (g8.mpr ⟨λ_=>f,λz=>absurd z l⟩) (List.Perm.refl _)
    ·exact put _ (w t) (g8.mpr ⟨λz=>absurd z l,λ_=>f⟩) pn
   ·rcases O.cP x m P with g | g
    ·exact put _ d (g8.mpr ⟨λz=>absurd z t,λ_=>g⟩) (List.Perm.refl _)
    ·exact put _ (r l) (g8.mpr ⟨λ_=>g,λz=>absurd z t⟩) o
   ·exact put _ d (g8.mpr ⟨λz=>absurd z t,λz=>absurd z l⟩) (List.Perm.refl _)
  ·rintro⟨c,d,rfl⟩;exact⟨c,(ft.mp d).1,rfl⟩
 rw[pm.length_eq,a8,m4]
end
end Tl
end
section
namespace Tl
open Hs
section
variable {bx:Ob}{os:List Ob}{x n m:Ob}
def az.closed (T:az bx os) (a:bx.ok) (nd:(os++walls bx).Nodup):et os (walls bx) (bj (os++walls bx)) where
 fS:=(ia.mp nd).1
 cz:=λx hx hw=>(ia.mp nd).2.2 x hx x hw rfl
 nd:=λx hx=>T.J6 a hx nd
 len:=λx hx=>by
  have n0:=ka.mpr (T.chain a hx nd (k:=0) (by decide)).1
  have n1:=ka.mpr (T.chain a hx nd (k:=1) (by decide)).1
  have n2:=ka.mpr (T.chain a hx nd (k:=2) (by decide)).1
  have n3:=ka.mpr (T.chain a hx nd (k:=3) (by decide)).1
  unfold bj;simp only[eJ,eJ,eJ]
  lia
 mem:=λx hx y c=>ee.mp (gN.mp c).1
 eG:=λx hx h=>by
  obtain⟨_,k,d,u⟩:=gN.mp h;have ox:=lI k (Nb.ok T a (.inl hx));unfold Up at u
  lia
 sym:=λx hx y c h=>by
  obtain⟨_,k,d,u⟩:=gN.mp h;have e:on k x y=on (k + 2) y x:=Ay x y k;have b:on (k + 2) y x=true:=by rw[<- e];exact decide_eq_true u
  refine gN.mpr ⟨ee.mpr (.inl hx),?_⟩
  by_cases f:k + 2 < 4
  ·exact⟨k + 2,f,of_decide_eq_true b⟩
  ·have g:on (k + 2) y x=on (k - 2) y x:=by
    rw[show k + 2=(k - 2) + 4 from by omega]
    exact zJ _ _ _
   rw[g] at b;exact⟨k - 2,by omega,of_decide_eq_true b⟩
 fE:=λx hx n m s i=>(T.corners a hx nd s).1 i
 fI:=λx hx n m s j=>(T.corners a hx nd s).2 j
def AY (N) (x) (p):(bj N x).countP p=bR λk=>N.countP λz=>on k x z && p z:=by
 have e:∀k,(bI N x k).countP p=N.countP λz=>on k x z && p z:=λk=>by
  unfold bI;simp only[(gp _ _).countP_eq,mL];rfl
 dsimp only[bj,bR];simp only[k5,k5,k5,e,e,e,e]
def az.zj (T:az bx os) (hp:bx.ok) (nd:(os++walls bx).Nodup) (x:Ob):(bj (os++walls bx) x).countP (ah os)=bR (λk=>os.countP (on k x))/\((bj (os++walls bx) x).countP λy=>!ah os y)=bR λk=>(walls bx).countP (on k x):=by
 have cz:∀w∈walls bx,w∉os:=λw hw d=>(ia.mp nd).2.2 w d w hw rfl
 have a:∀k,((os++walls bx).countP λz=>on k x z && ah os z)=os.countP (on k x):=λk=>by
  rw[k5];have f:(os.countP λz=>on k x z && ah os z)=os.countP (on k x):=pv λz c=>by
   have:ah os z=true:=decide_eq_true c;rw[this,UC]
  have g:((walls bx).countP λz=>on k x z && ah os z)=0:=by
   rw[mo];intro w hw e;rw[dV] at e;exact cz w hw (of_decide_eq_true e.2)
  lia
 have b:∀k,((os++walls bx).countP λz=>on k x z && !ah os z)=(walls bx).countP (on k x):=λk=>by
  rw[k5];have f:((walls bx).countP λz=>on k x z && !ah os z)=(walls bx).countP (on k x):=pv λz c=>by
   have:ah os z=false:=decide_eq_false (cz z c);rw[this];simp
  have g:(os.countP λz=>on k x z && !ah os z)=0:=by
   rw[mo];intro w hw e;have:ah os w=true:=decide_eq_true hw;rw[this] at e;simp at e
  lia
 simp only[AY,AY];exact⟨congrArg bR (funext a),congrArg bR (funext b)⟩
def az.sums (T:az bx os) (a:bx.ok) (nd:(os++walls bx).Nodup):aw (λx=>(bj (os++walls bx) x).countP (ah os)) os + 2 * aw (λx=>(bj (os++walls bx) x).countP λy=>!ah os y) os=6 * os.length + 2:=by
 rw[cC (g:=λx=>bR λk=>os.countP (on k x)) λx _=>(T.zj a nd x).1,cC (g:=λx=>bR λk=>(walls bx).countP (on k x)) λx _=>(T.zj a nd x).2]
 exact T.ties a nd
def qD (a:m∈walls bx) (i:bx.l<=x.l/\x.l < x.r/\x.r<=bx.r/\bx.b<=x.b/\x.b < x.t/\x.t<=bx.t) (u:Up (ae (ae x)) (ae (ae m))):m=wS bx/\x.b=bx.b:=by
 obtain⟨d,i2,e,i4,i5,i6⟩:=i;obtain⟨c,f,g⟩:=u;simp only[walls,cR,fm,or_false] at a
 rcases a with rfl | rfl | rfl | rfl
 ·exact absurd (VW.mp (show -(bx.t + 1)=-x.b from c)) (by omega)
 ·exact absurd (Ur.mp (show -x.r < -bx.r from f)) (U0.mpr e)
 ·exact⟨rfl,(VW.mp (show -bx.b=-x.b from c)).symm⟩
 ·exact absurd (Ur.mp (show -bx.l < -x.l from g)) (U0.mpr d)
def rG (a:m∈walls bx) (i:bx.l<=x.l/\x.l < x.r/\x.r<=bx.r/\bx.b<=x.b/\x.b < x.t/\x.t<=bx.t) (u:Up (ae (ae (ae x))) (ae (ae (ae m)))):m=wW bx/\x.l=bx.l:=by
 obtain⟨i1,i2,i3,i4,i5,i6⟩:=i;obtain⟨c,d,e⟩:=u;dsimp only[ae] at c d e;simp only[walls,cR,fm,or_false] at a
 rcases a with rfl | rfl | rfl | rfl <;> dsimp only[wN,wE,wS,wW] at c d e
 ·omega
 ·omega
 ·omega
 ·exact⟨rfl,by omega⟩
def az.iI (T:az bx os) (u:bx.ok) (hx:x∈os) (i:n∈walls bx) (j:m∈walls bx):cv x n m ↔ (n=wN bx/\m=wE bx/\x.t=bx.t/\x.r=bx.r)\/(n=wE bx/\m=wS bx/\x.r=bx.r/\x.b=bx.b)\/(n=wS bx/\m=wW bx/\x.b=bx.b/\x.l=bx.l)\/(n=wW bx/\m=wN bx/\x.l=bx.l/\x.t=bx.t):=by
 have h:=T.aE x hx;have ⟨s,v⟩:=u;constructor
 ·rintro⟨k,hk,f⟩;have w:k=0\/k=1\/k=2\/k=3:=by omega
  rcases w with rfl | rfl | rfl | rfl
  ·rcases f with⟨un,g,e⟩ | ⟨un,o,g,em⟩
   ·rw[(ju i h un).1,(ju j h g).1] at e;exact absurd (show bx.r=bx.l from e) (Int.ne_of_gt s)
   ·obtain⟨a,b⟩:=ju i h un;obtain⟨c,d⟩:=lV j h g;exact .inl ⟨a,c,b,d⟩
  ·rcases f with⟨un,g,e⟩ | ⟨un,o,g,em⟩
   ·rw[(lV i h un).1,(lV j h g).1] at e;exact absurd (VW.mp (show -bx.b=-bx.t from e)) (YT v)
   ·obtain⟨a,b⟩:=lV i h un;obtain⟨c,d⟩:=qD j h g;exact .inr (.inl ⟨a,c,b,d⟩)
  ·rcases f with⟨un,g,e⟩ | ⟨un,o,g,em⟩
   ·rw[(qD i h un).1,(qD j h g).1] at e;exact absurd (VW.mp (show -bx.l=-bx.r from e)) (YT s)
   ·obtain⟨a,b⟩:=qD i h un;obtain⟨c,d⟩:=rG j h g;exact .inr (.inr (.inl ⟨a,c,b,d⟩))
  ·rcases f with⟨un,g,e⟩ | ⟨un,o,g,em⟩
   ·rw[(rG i h un).1,(rG j h g).1] at e;dsimp only[aa,ae,wW] at e;omega
   ·obtain⟨a,b⟩:=rG i h un;have g:Up (ae (ae (ae (ae x)))) (ae (ae (ae (ae m)))):=g;rw[mv,mv] at g;obtain⟨c,d⟩:=ju j h g;exact .inr (.inr (.inr ⟨a,c,b,d⟩))
 ·rintro (⟨rfl,rfl,p,q⟩ | ⟨rfl,rfl,p,q⟩ | ⟨rfl,rfl,p,q⟩ | ⟨rfl,rfl,p,q⟩)
  ·exact⟨0,by decide,.inr (by dsimp only[Up,aa,ae,wN,wE];omega)⟩
  ·exact⟨1,by decide,.inr (by dsimp only[Up,aa,ae,wS,wE];omega)⟩
  ·exact⟨2,by decide,.inr (by dsimp only[Up,aa,ae,wS,wW];omega)⟩
  ·exact⟨3,by decide,.inr (by dsimp only[Up,aa,ae,wN,wW];omega)⟩
end
end Tl
end
section
namespace Tl
section
variable {α:Type} [DecidableEq α] {rooms walls:List α}{ring:α->List α}{lt:α->α->Bool}
def Cg {l d:List α}(nd:l.Nodup) (e:d.Nodup) (p:α->Bool):(l.countP λy=>decide (y∈d) && p y)=d.countP λy=>decide (y∈l) && p y:=by
 simp only[m4,m4];refine List.Perm.length_eq ((kH (j2 ma nd) (j2 ma e)).mpr λy=>?_)
 rw[ft,ft];simp only[dV,decide_eq_true_eq];constructor
 ·rintro⟨a,b,c⟩;exact⟨b,a,c⟩
 ·rintro⟨a,b,c⟩;exact⟨b,a,c⟩
def et.half (C:et rooms walls ring) (O:Order lt):2 * aw (λx=>(ring x).countP λy=>ah rooms y && lt x y) rooms=aw (λx=>(ring x).countP (ah rooms)) rooms:=by
 have a:∀x∈rooms,((ring x).countP λy=>ah rooms y && lt x y)=rooms.countP λy=>decide (y∈ring x) && lt x y:=λx hx=>Cg (C.nd x hx) C.fS (lt x)
 have b:∀x∈rooms,(ring x).countP (ah rooms)=rooms.countP λy=>decide (y∈ring x):=λx hx=>by
  have:=Cg (C.nd x hx) C.fS λ_=>true
  simp only[UC] at this;exact this
 rw[cC a,cC b];have s:aw (λx=>rooms.countP λy=>decide (y∈ring x) && lt x y) rooms=aw (λy=>rooms.countP λx=>decide (x∈ring y) && lt x y) rooms:=by
  rw[qJ λx y=>decide (y∈ring x) && lt x y]
  refine cC λy d=>pv λx hx=>?_
  have:(y∈ring x) ↔ (x∈ring y):=⟨λh=>C.sym x hx y d h,λh=>C.sym y d x hx h⟩
  simp only[dV,decide_eq_true_eq];rw[this]
 have t:aw (λx=>rooms.countP λy=>decide (y∈ring x)) rooms=aw (λx=>rooms.countP λy=>decide (y∈ring x) && lt x y) rooms + aw (λx=>rooms.countP λy=>decide (y∈ring x) && lt y x) rooms:=by
  rw[<- fU];refine cC λx hx=>?_
  simp only[fw (λy=>decide (y∈ring x)) (λy=>lt x y)]
  congr 1;refine pv λy d=>?_
  simp only[dV,decide_eq_true_eq,nq];constructor
  ·rintro⟨c,f⟩;refine⟨c,?_⟩;have ne:x≠y:=λe=>C.eG x hx (e ▸ c)
   rcases O.cP x y ne with h | h
   ·rw[f] at h;cases h
   ·exact h
  ·rintro⟨c,f⟩;exact⟨c,O.iL f⟩
 lia
end
open Hs
section
variable {bx:Ob}{os:List Ob}{lt:Ob->Ob->Bool}
def az.ko (T:az bx os)(d:bx.l<=p)(e:p < bx.r)(f:bx.b<=q)(g:q < bx.t){P:Ob->Prop}(i:∀o,(bx.l<=o.l/\o.l < o.r/\o.r<=bx.r/\bx.b<=o.b/\o.b < o.t/\o.t<=bx.t)->(P o ↔ o.l<=p/\p < o.r/\o.b<=q/\q < o.t)):∃x∈os,∀y∈os,P y ↔ y=x:=by
 obtain⟨x,hx,k⟩:=T.hit p q d e f g;refine⟨x,hx,λy c=>?_⟩
 rw[i y (T.aE y c)];constructor
 ·intro h;refine (T.ap y c x hx).resolve_right λa=>?_
  unfold Apart at a;omega
 ·rintro rfl;exact k
def az.N6 (T:az bx os) (d:bx.ok) (nd:(os++walls bx).Nodup):((Tl.corners os (bj (os++walls bx))).countP λc=>!ah os c.2.1 && !ah os c.2.2)=4:=by
 have C:=T.closed d nd;have E:=d;unfold Ob.ok at E;obtain⟨J,w,F⟩:=T.ko (p:=bx.r - 1) (q:=bx.t - 1) (P:=λx=>x.t=bx.t/\x.r=bx.r) (by omega) (by omega) (by omega) (by omega) (λo i=>by omega)
 obtain⟨K,y,G⟩:=T.ko (p:=bx.r - 1) (q:=bx.b) (P:=λx=>x.r=bx.r/\x.b=bx.b) (by omega) (by omega) (by omega) (by omega) (λo i=>by omega)
 obtain⟨L,z,H⟩:=T.ko (p:=bx.l) (q:=bx.b) (P:=λx=>x.b=bx.b/\x.l=bx.l) (by omega) (by omega) (by omega) (by omega) (λo i=>by omega)
 obtain⟨M,A,I⟩:=T.ko (p:=bx.l) (q:=bx.t - 1) (P:=λx=>x.l=bx.l/\x.t=bx.t) (by omega) (by omega) (by omega) (by omega) (λo i=>by omega)
 rw[m4];have N:wN bx≠wE bx:=λe=>by have:=congrArg Ob.t e;simp only[wN,wE] at this;omega
 have O:wN bx≠wS bx:=λe=>by have:=congrArg Ob.b e;simp only[wN,wS] at this;omega
 have Q:wN bx≠wW bx:=λe=>by have:=congrArg Ob.t e;simp only[wN,wW] at this;omega
 have R:wE bx≠wS bx:=λe=>by have:=congrArg Ob.b e;simp only[wE,wS] at this;omega
 have S:wE bx≠wW bx:=λe=>by have:=congrArg Ob.l e;simp only[wE,wW] at this;omega
 have U:wS bx≠wW bx:=λe=>by have:=congrArg Ob.b e;simp only[wS,wW] at this;omega
 have pm:((Tl.corners os (bj (os++walls bx))).filter λc=>!ah os c.2.1 && !ah os c.2.2).Perm [(J,wN bx,wE bx),(K,wE bx,wS bx),(L,wS bx,wW bx),(M,wW bx,wN bx)]:=by
  refine (kH (j2 ma (jk C)) ?_).mpr ?_
  ·simp only[ib,cR,fm,or_false,TU,not_or,not_and];refine⟨⟨λ_ h=>absurd h N,λ_ h=>absurd h O,λ_ h=>absurd h Q⟩,⟨λ_ h=>absurd h R,λ_ h=>absurd h S⟩,λ_ h=>absurd h U,not_false,za⟩
  ·rintro⟨x,n,m⟩;have g:∀{o:Ob},o∈walls bx->o∉os:=λ{o} hw V=>(ia.mp nd).2.2 o V o hw rfl
   rw[ft,d8];simp only[ah,dV,nq,decide_eq_false_iff_not,cR,fm,or_false,TU];constructor
   ·rintro⟨⟨hx,s⟩,W,X⟩;have B:n∈walls bx:=(C.mem x hx n s.mem.1).resolve_left W;have D:m∈walls bx:=(C.mem x hx m s.mem.2).resolve_left X;have f:=(T.iI d hx B D).mp ((T.dC d hx nd (.inr B) (.inr D)).mp s)
    rcases f with⟨a,b,c⟩ | ⟨a,b,c⟩ | ⟨a,b,c⟩ | ⟨a,b,c⟩
    ·exact .inl ⟨(F x hx).mp c,a,b⟩
    ·exact .inr (.inl ⟨(G x hx).mp c,a,b⟩)
    ·exact .inr (.inr (.inl ⟨(H x hx).mp c,a,b⟩))
    ·exact .inr (.inr (.inr ⟨(I x hx).mp c,a,b⟩))
   ·have j:wN bx∈walls bx:=by simp[walls]
    have k:wE bx∈walls bx:=by simp[walls]
    have u:wS bx∈walls bx:=by simp[walls]
    have v:wW bx∈walls bx:=by simp[walls]
    rintro (⟨rfl,rfl,rfl⟩ | ⟨rfl,rfl,rfl⟩ | ⟨rfl,rfl,rfl⟩ | ⟨rfl,rfl,rfl⟩)
    ·exact⟨⟨w,(T.dC d w nd (.inr j) (.inr k)).mpr ((T.iI d w j k).mpr (.inl ⟨rfl,rfl,(F _ w).mpr rfl⟩))⟩,g j,g k⟩
    ·exact⟨⟨y,(T.dC d y nd (.inr k) (.inr u)).mpr ((T.iI d y k u).mpr (.inr (.inl ⟨rfl,rfl,(G _ y).mpr rfl⟩)))⟩,g k,g u⟩
    ·exact⟨⟨z,(T.dC d z nd (.inr u) (.inr v)).mpr ((T.iI d z u v).mpr (.inr (.inr (.inl ⟨rfl,rfl,(H _ z).mpr rfl⟩))))⟩,g u,g v⟩
    ·exact⟨⟨A,(T.dC d A nd (.inr v) (.inr j)).mpr ((T.iI d A v j).mpr (.inr (.inr (.inr ⟨rfl,rfl,(I _ A).mpr rfl⟩))))⟩,g v,g j⟩
 rw[pm.length_eq];rfl
end
end Tl
end
section
namespace Tl
open Hs
section
variable {bx:Ob}{os:List Ob}{x y n m p:Ob}
inductive Row {α:Type}(rooms:List α) (ring:α->List α) (wall:α):α->List α->Prop
 | stop {a:α}:a∉rooms->Row rooms ring wall a []
 | go {a p:α}{l:List α}:a∈rooms->aD (ring a) p wall->Row rooms ring wall p l->Row rooms ring wall a (a::l)
def az.before (T:az bx os) (d:bx.ok) (hx:x∈os) (nd:(os++walls bx).Nodup) (ht:x.t=bx.t):∃p,Nb bx os p/\cv x p (wN bx)/\((p∈os/\p.t=bx.t/\p.r=x.l)\/(p=wW bx/\x.l=bx.l)):=by
 have ix:=T.aE x hx;have c:=d;unfold Ob.ok at c
 by_cases h:x.l=bx.l
 ·refine⟨wW bx,.inr (by simp[walls]),⟨3,by decide,.inr ?_⟩,.inr ⟨rfl,h⟩⟩
  simp only[Up,aa,ae,wN,wW];omega
 ·-- the room to the left,at the top
  obtain⟨o,b,k1,k2,k3,k4⟩:=T.hit (x.l - 1) (x.t - 1) (by omega) (by omega) (by omega) (by omega)
  have io:=T.aE o b;have ap:Apart o x:=by
   rcases T.ap o b x hx with e | a
   ·subst e;lia
   ·exact a
  unfold Apart at ap;refine⟨o,.inl b,⟨3,by decide,.inr ?_⟩,.inl ⟨b,by omega,by omega⟩⟩
  simp only[Up,aa,ae,wN];omega
theorem az.Li (T:az bx os) (o:bx.ok) (nd:(os++walls bx).Nodup):∀(k:Nat) (x:Ob),x∈os->x.t=bx.t->(x.l - bx.l).toNat<=k->∃l,Row os (bj (os++walls bx)) (wN bx) x l/\l.Nodup/\∀y,y∈l ↔ y∈os/\y.t=bx.t/\y.r<=x.r:=by
 intro k;induction k with
 | zero =>
  intro x hx g B;have C:=T.aE x hx;obtain⟨p,i,f,h⟩:=T.before o hx nd g;have v:Nb bx os (wN bx):=.inr (by simp[walls])
  have s:=(T.dC o hx nd i v).mpr f
  rcases h with⟨d,u,w⟩ | ⟨d,u⟩
  ·have:=T.aE p d;omega
  ·subst d;refine⟨[x],.go hx s (.stop λz=>(ia.mp nd).2.2 _ z _ (by simp[walls]) rfl),UH _ _,λy=>?_⟩
   rw[iR];constructor
   ·rintro rfl;exact⟨hx,g,UB _⟩
   ·rintro⟨j,w,D⟩;have A:=T.aE y j;refine (T.ap y j x hx).resolve_right λa=>?_
    unfold Apart at a;omega
 | succ k E =>
  intro x hx g B;have C:=T.aE x hx;obtain⟨p,i,f,h⟩:=T.before o hx nd g;have v:Nb bx os (wN bx):=.inr (by simp[walls])
  have s:=(T.dC o hx nd i v).mpr f
  rcases h with⟨d,u,w⟩ | ⟨d,u⟩
  ·have ip:=T.aE p d;obtain⟨l,r,n,e⟩:=E p d u (by omega)
   refine⟨x::l,.go hx s r,ib.mpr ⟨λz=>?_,n⟩,λy=>?_⟩
   ·have:=((e x).mp z).2.2;omega
   ·rw[cR,e y];constructor
    ·rintro (rfl | ⟨a,b,c⟩)
     ·exact⟨hx,g,UB _⟩
     ·exact⟨a,b,by omega⟩
    ·rintro⟨a,b,c⟩;have A:=T.aE y a
     rcases T.ap y a x hx with e | q
     ·exact .inl e
     ·right;unfold Apart at q;exact⟨a,b,by omega⟩
  ·subst d;refine⟨[x],.go hx s (.stop λz=>(ia.mp nd).2.2 _ z _ (by simp[walls]) rfl),UH _ _,λy=>?_⟩
   rw[iR];constructor
   ·rintro rfl;exact⟨hx,g,UB _⟩
   ·rintro⟨j,w,D⟩;have A:=T.aE y j;refine (T.ap y j x hx).resolve_right λa=>?_
    unfold Apart at a
    lia
noncomputable def reach [DecidableEq a](rooms walls:List a)(ring:a->List a):Nat->List a
 | 0=>walls
 | k + 1=>walls++rooms.filter λx=>(ring x).any λy=>decide (y∈reach rooms walls ring k)
theorem az.reached (T:az bx os) (c:bx.ok) (nd:(os++walls bx).Nodup):∀(k:Nat) (x:Ob),x∈os->(os.countP λy=>decide (x.t < y.t)) < k->x∈reach os (walls bx) (bj (os++walls bx)) k:=by
 intro k;induction k with
 | zero=>intro x _ h;omega
 | succ k d =>
  intro x hx h;obtain⟨ne,_⟩:=T.chain c hx nd (k:=0) (by decide)
  obtain⟨y,e⟩:=Wf _ ne;obtain⟨b,u⟩:=fN.mp e;have f:y∈bj (os++walls bx) x:=gN.mpr ⟨b,0,by decide,u⟩
  refine ee.mpr (.inr (ft.mpr ⟨hx,j3.mpr ⟨y,f,decide_eq_true ?_⟩⟩))
  rcases ee.mp b with a | hw
  ·refine d y a (hQ ?_ (Nat.le_of_lt_succ h));have iy:=T.aE y a;have hxy:x.t < y.t:=by
    have u:Up x y:=u;unfold Up at u;omega
   have sp:=fw (λz:Ob=>decide (x.t < z.t)) (λz=>decide (y.t < z.t)) os
   have e1:(os.countP λz=>decide (x.t < z.t) && decide (y.t < z.t))=os.countP λz=>decide (y.t < z.t):=pv λz _=>by
    simp only[dV,decide_eq_true_eq];omega
   have e2:0 < os.countP λz=>decide (x.t < z.t) && !decide (y.t < z.t):=List.countP_pos_iff.mpr ⟨y,a,by simp;omega⟩
   omega
  ·cases k with
   | zero=>exact hw
   | succ k=>exact ee.mpr (.inl hw)
def az.all_reached (T:az bx os) (a:bx.ok) (nd:(os++walls bx).Nodup) (hx:x∈os):x∈reach os (walls bx) (bj (os++walls bx)) os.length:=by
 refine T.reached a nd os.length x hx ?_;have b:=U5 (p:=λy:Ob=>decide (x.t < y.t)) (l:=os)
 refine Nat.lt_of_le_of_ne b λe=>?_
 have:=List.countP_eq_length.mp e x hx;simp at this
end
end Tl
end
section
namespace Tl
open Hs
section
variable {bx:Ob}{os:List Ob}{x y n m p w:Ob}
inductive jc (bx:Ob) (os:List Ob) (w:Ob):Ob->List Ob->Prop
 | stop {a:Ob}:a∉os->jc bx os w a []
 | go {a p:Ob}{l:List Ob}:a∈os->Nb bx os p->cv a p w->jc bx os w p l->jc bx os w a (a::l)
theorem Row.toF (T:az bx os) (b:bx.ok) (nd:(os++walls bx).Nodup)(h:Row os (bj (os++walls bx)) w a l):jc bx os w a l:=by
 induction h with
 | stop h=>exact .stop h
 | @go a p l h s _ c =>
  refine .go h (ee.mp (gN.mp s.mem.1).1) ?_ c;obtain⟨i,d,e⟩:=s;exact T.uo b h nd d e
theorem jc.GA (T:az bx os) (b:bx.ok) (nd:(os++walls bx).Nodup) (hw:Nb bx os w)(h:jc bx os w a l):Row os (bj (os++walls bx)) w a l:=by
 induction h with
 | stop h=>exact .stop h
 | @go a p l h c f _ d=>exact .go h ((T.dC b h nd c hw).mpr f) d
theorem jc.back (k) (i:k < 4)(h:jc (aa k bx) (os.map (aa k)) (aa k w) (aa k a) l):∃c,l=c.map (aa k)/\jc bx os w a c:=by
 generalize d:aa k a=j at h;induction h generalizing a with
 | stop h =>
  subst d;exact⟨[],rfl,.stop λz=>h (a9.mpr ⟨a,z,rfl⟩)⟩
 | @go j o l h q f _ s =>
  subst d;obtain⟨p,rfl⟩:=uv k i o;obtain⟨c,e,r⟩:=s rfl;obtain⟨b,g,t⟩:=a9.mp h;rw[gA k t] at g;refine⟨a::c,by rw[e];rfl,.go g ((oK k).mp q) (cv.ups k f) r⟩
noncomputable def wall (bx:Ob) (k:Nat):Ob:=if k=0 then wN bx else if k=1 then wE bx else if k=2 then wS bx else wW bx
def eP (bx) (k):wall bx k∈walls bx:=by
 unfold wall;split
 ·simp[walls]
 ·split
  ·simp[walls]
  ·split <;> simp[walls]
def zh (hk:k < 4):aa k (wall bx k)=wN (aa k bx):=by
 have a:k=0\/k=1\/k=2\/k=3:=by lia
 rcases a with rfl | rfl | rfl | rfl
 ·rfl
 ·exact g9 (by simp only[wall,aa,ae,wN,wE,if_neg (show ¬(1:Nat)=0 by decide),if_true]) (by simp only[wall,aa,ae,wN,wE,if_neg (show ¬(1:Nat)=0 by decide),if_true]) (by simp only[wall,aa,ae,wN,wE,if_neg (show ¬(1:Nat)=0 by decide),if_true]) (by simp only[wall,aa,ae,wN,wE,if_neg (show ¬(1:Nat)=0 by decide),if_true])
 ·have e:wall bx 2=wS bx:=rfl;rw[e];exact g9 (by simp only[aa,ae,wN,wS]) (by simp only[aa,ae,wN,wS]) (by simp only[aa,ae,wN,wS]) (by simp only[aa,ae,wN,wS];lia)
 ·have e:wall bx 3=wW bx:=rfl;rw[e];exact g9 (by simp only[aa,ae,wN,wW] <;> omega) (by simp only[aa,ae,wN,wW] <;> omega) (by simp only[aa,ae,wN,wW] <;> omega) (by simp only[aa,ae,wN,wW] <;> lia)
noncomputable def mj (bx:Ob) (k:Nat) (x:Ob):Prop:=(aa k x).t=(aa k bx).t
def az.L1 (nd:(os++walls bx).Nodup) (T:az bx os) (g:bx.ok) (k:Nat):(os.map (aa k)++walls (aa k bx)).Nodup:=by
 rw[ia] at nd ⊢;refine⟨qu k nd.1,?_,?_⟩
 ·have d:=kA k g;unfold Ob.ok at d;generalize aa k bx=c at d;simp only[walls,ib,cR,fm,or_false,not_or];refine⟨⟨λe=>?_,λe=>?_,λe=>?_⟩,⟨λe=>?_,λe=>?_⟩,λe=>?_,not_false,za⟩
  ·have:=congrArg Ob.t e;simp only[wN,wE] at this;omega
  ·have:=congrArg Ob.b e;simp only[wN,wS] at this;omega
  ·have:=congrArg Ob.t e;simp only[wN,wW] at this;omega
  ·have:=congrArg Ob.b e;simp only[wE,wS] at this;omega
  ·have:=congrArg Ob.l e;simp only[wE,wW] at this;omega
  ·have:=congrArg Ob.b e;simp only[wS,wW] at this;omega
 ·intro a h b f e;subst e;have i:=(T.turns k).aE a h;have f:a=wN (aa k bx)\/a=wE (aa k bx)\/a=wS (aa k bx)\/a=wW (aa k bx):=by simpa[walls] using f
  rcases f with rfl | rfl | rfl | rfl <;> simp only[wN,wE,wS,wW] at i <;> omega
def az.row (T:az bx os) (o:bx.ok) (nd:(os++walls bx).Nodup)(t:k < 4)(hx:x∈os)(v:mj bx k x)(h2:(aa k x).r=(aa k bx).r):∃l,Row os (bj (os++walls bx)) (wall bx k) x l/\l.Nodup/\∀y,y∈l ↔ y∈os/\mj bx k y:=by
 have q:=T.turns k;have h:=kA k o;have j:=az.L1 nd T o k;obtain⟨l,r,n,e⟩:=q.Li h j _ (aa k x) (a9.mpr ⟨x,hx,rfl⟩) v (eS _);have f:=Row.toF q h j r;rw[<- zh t] at f;obtain⟨A,rfl,B⟩:=jc.back k t f;refine⟨A,B.GA T o nd (.inr (eP bx k)),(hF.mp n).imp λu e=>u (by rw[e]),λy=>?_⟩
 constructor
 ·intro g;obtain⟨a,b,c⟩:=(e (aa k y)).mp (a9.mpr ⟨y,g,rfl⟩);obtain⟨z,d,s⟩:=a9.mp a;rw[gA k s] at d;exact⟨d,b⟩
 ·rintro⟨g,hw⟩;have i:=q.aE _ (a9.mpr ⟨y,g,rfl⟩);obtain⟨z,d,s⟩:=a9.mp ((e (aa k y)).mpr ⟨a9.mpr ⟨y,g,rfl⟩,hw,by omega⟩)
  rw[gA k s] at d;exact d
def az.tied (T:az bx os) (f:bx.ok) (b:y∈os)(c:k < 4):wall bx k∈bj (os++walls bx) y ↔ mj bx k y:=by
 have i:=T.aE y b;have d:=f;unfold Ob.ok at d;rw[gN];unfold mj;have g:k=0\/k=1\/k=2\/k=3:=by lia
 constructor
 ·rintro⟨_,j,hj,u⟩;have a:j=0\/j=1\/j=2\/j=3:=by lia
  unfold Up at u
  rcases g with rfl | rfl | rfl | rfl
  ·have e:wall bx 0=wN bx:=rfl;rw[e] at u
   rcases a with rfl | rfl | rfl | rfl <;> simp only[aa,ae,wN] at u ⊢ <;> omega
  ·have e:wall bx 1=wE bx:=rfl;rw[e] at u
   rcases a with rfl | rfl | rfl | rfl <;> simp only[aa,ae,wE] at u ⊢ <;> omega
  ·have e:wall bx 2=wS bx:=rfl;rw[e] at u
   rcases a with rfl | rfl | rfl | rfl <;> simp only[aa,ae,wS] at u ⊢ <;> omega
  ·have e:wall bx 3=wW bx:=rfl;rw[e] at u
   rcases a with rfl | rfl | rfl | rfl <;> simp only[aa,ae,wW] at u ⊢ <;> omega
 ·intro h;refine⟨ee.mpr (.inr (eP bx k)),k,c,?_⟩;rw[zh c];have i':=(T.turns k).aE _ (a9.mpr ⟨y,b,rfl⟩);simp only[Up,wN]
  lia
def az.first (T:az bx os) (c:bx.ok) (nd:(os++walls bx).Nodup)(hk:k < 4):∃x∈os,mj bx k x/\(aa k x).r=(aa k bx).r/\∀y∈os,aD (bj (os++walls bx) y) (wall bx k) (wall bx ((k + 1) % 4)) ↔ y=x:=by
 have s:=c;unfold Ob.ok at s;have key:∀y∈os,∀P:Prop,(cv y (wall bx k) (wall bx ((k + 1) % 4)) ↔ P)->(aD (bj (os++walls bx) y) (wall bx k) (wall bx ((k + 1) % 4)) ↔ P):=λy a P h=>by
  rw[T.dC c a nd (.inr (eP bx k)) (.inr (eP bx _))];exact h
 have u:wN bx≠wE bx:=λe=>by have:=congrArg Ob.t e;simp only[wN,wE] at this;omega
 have v:wN bx≠wS bx:=λe=>by have:=congrArg Ob.b e;simp only[wN,wS] at this;omega
 have z:wN bx≠wW bx:=λe=>by have:=congrArg Ob.t e;simp only[wN,wW] at this;omega
 have A:wE bx≠wS bx:=λe=>by have:=congrArg Ob.b e;simp only[wE,wS] at this;omega
 have B:wE bx≠wW bx:=λe=>by have:=congrArg Ob.l e;simp only[wE,wW] at this;omega
 have C:wS bx≠wW bx:=λe=>by have:=congrArg Ob.b e;simp only[wS,wW] at this;omega
 have D:wN bx∈walls bx:=by simp[walls]
 have E:wE bx∈walls bx:=by simp[walls]
 have F:wS bx∈walls bx:=by simp[walls]
 have G:wW bx∈walls bx:=by simp[walls]
 unfold mj;have Q:k=0\/k=1\/k=2\/k=3:=by lia
 rcases Q with rfl | rfl | rfl | rfl
 ·obtain⟨H,I,d⟩:=T.ko (p:=bx.r - 1) (q:=bx.t - 1) (P:=λx=>x.t=bx.t/\x.r=bx.r) (by omega) (by omega) (by omega) (by omega) (λo i=>by omega)
  have q:=(d H I).mpr rfl;refine⟨H,I,by simp only[aa];lia,by simp only[aa];lia,λy a=>key y a _ ((T.iI c a D E).trans ⟨λh=>?_,λh=>.inl ⟨rfl,rfl,(d y a).mpr h⟩⟩)⟩
  rcases h with⟨_,_,h⟩ | ⟨h,_⟩ | ⟨h,_⟩ | ⟨h,_⟩
  ·exact (d y a).mp h
  ·exact absurd h u
  ·exact absurd h v
  ·exact absurd h z
 ·obtain⟨J,K,f⟩:=T.ko (p:=bx.r - 1) (q:=bx.b) (P:=λx=>x.r=bx.r/\x.b=bx.b) (by omega) (by omega) (by omega) (by omega) (λo i=>by omega)
  have q:=(f J K).mpr rfl;refine⟨J,K,by simp only[aa,ae];lia,by simp only[aa,ae];lia,λy a=>key y a _ ((T.iI c a E F).trans ⟨λh=>?_,λh=>.inr (.inl ⟨rfl,rfl,(f y a).mpr h⟩)⟩)⟩
  rcases h with⟨h,_⟩ | ⟨_,_,h⟩ | ⟨h,_⟩ | ⟨h,_⟩
  ·exact absurd h.symm u
  ·exact (f y a).mp h
  ·exact absurd h A
  ·exact absurd h B
 ·obtain⟨L,M,g⟩:=T.ko (p:=bx.l) (q:=bx.b) (P:=λx=>x.b=bx.b/\x.l=bx.l) (by omega) (by omega) (by omega) (by omega) (λo i=>by omega)
  have q:=(g L M).mpr rfl;refine⟨L,M,by simp only[aa,ae];lia,by simp only[aa,ae];lia,λy a=>key y a _ ((T.iI c a F G).trans ⟨λh=>?_,λh=>.inr (.inr (.inl ⟨rfl,rfl,(g y a).mpr h⟩))⟩)⟩
  rcases h with⟨h,_⟩ | ⟨h,_⟩ | ⟨_,_,h⟩ | ⟨h,_⟩
  ·exact absurd h.symm v
  ·exact absurd h.symm A
  ·exact (g y a).mp h
  ·exact absurd h C
 ·obtain⟨N,O,j⟩:=T.ko (p:=bx.l) (q:=bx.t - 1) (P:=λx=>x.l=bx.l/\x.t=bx.t) (by omega) (by omega) (by omega) (by omega) (λo i=>by omega)
  have q:=(j N O).mpr rfl;refine⟨N,O,by simp only[aa,ae];lia,by simp only[aa,ae];lia,λy a=>key y a _ ((T.iI c a G D).trans ⟨λh=>?_,λh=>.inr (.inr (.inr ⟨rfl,rfl,(j y a).mpr h⟩))⟩)⟩
  rcases h with⟨h,_⟩ | ⟨h,_⟩ | ⟨h,_⟩ | ⟨_,_,h⟩
  ·exact absurd h.symm z
  ·exact absurd h.symm B
  ·exact absurd h.symm C
  ·exact (j y a).mp h
end
end Tl
end
section
namespace Tl
structure iE {α:Type} [DecidableEq α] (rooms:List α) (w:Nat->α) (ring:α->List α) (lt:α->α->Bool):Prop where
 C:et rooms [w 0,w 1,w 2,w 3] ring
 l6:[w 0,w 1,w 2,w 3].Nodup
 ww:∀x∈rooms,∀j k,j < 4->k < 4->aD (ring x) (w j) (w k)->k=(j + 1) % 4
 row:∀k,k < 4->∃x∈rooms,(∀y∈rooms,aD (ring y) (w k) (w ((k + 1) % 4)) ↔ y=x)/\∃l,Row rooms ring (w k) x l/\l.Nodup/\∀y,y∈l ↔ y∈rooms/\w k∈ring y
 all:∀x∈rooms,x∈reach rooms [w 0,w 1,w 2,w 3] ring rooms.length
 wt:(corners rooms ring).countP (canon rooms lt) + rooms.length=aw (λx=>(ring x).countP λy=>!ah rooms y) rooms + aw (λx=>(ring x).countP λy=>ah rooms y && lt x y) rooms + 1
section
variable {α:Type} [DecidableEq α] {rooms rooms' walls:List α}{w:Nat->α}{ring ring':α->List α}{lt:α->α->Bool}
noncomputable def fZ (l a:List α):Prop:=∃A B,l=A++B/\a=B++A
theorem fZ.perm {l a:List α}(h:fZ l a):a.Perm l:=by
 obtain⟨A,B,rfl,rfl⟩:=h;exact U1
def fZ.symm (h:fZ l a):fZ a l:=by
 obtain⟨A,B,rfl,rfl⟩:=h;exact⟨B,A,rfl,rfl⟩
def fZ.succ (h:fZ l b)(s:aD l n m):aD b n m:=by
 obtain⟨A,B,rfl,rfl⟩:=h;obtain⟨i,c,a⟩:=s;have d:=(bc.mp c).1;rw[eJ] at d a;unfold aD;rw[eJ];have get:∀j,j < A.length + B.length->(B++A)[(j + B.length) % (B.length + A.length)]? = (A++B)[j]?:=λj f=>by
  by_cases g:j < A.length
  ·rw[kx (by omega),hO (by lia),hH g]
   congr 1;omega
  ·have e:(j + B.length) % (B.length + A.length)=j - A.length:=by
    rw[show j + B.length=(j - A.length) + (B.length + A.length) from by omega,Nat.add_mod_right,kx (by omega)]
   rw[e,hH (by omega),hO (by omega)]
 refine⟨(i + B.length) % (B.length + A.length),by rw[get i d];exact c,?_⟩
 have f:(i + 1) % (A.length + B.length) < A.length + B.length:=Vw _ (by omega)
 rw[<- get _ f] at a;simp only[<- a];congr 1;have k:((i + B.length) % (B.length + A.length) + 1) % (B.length + A.length)=(i + B.length + 1) % (B.length + A.length):=by
  rw[VT,Y5,<- VT]
 have o:((i + 1) % (A.length + B.length) + B.length) % (B.length + A.length)=(i + 1 + B.length) % (B.length + A.length):=by
  rw[YS A.length B.length,VT,Y5,<- VT]
 simp only[k,o];congr 1
 lia
def fZ.dC (h:fZ l a):aD a n m ↔ aD l n m:=⟨h.symm.succ,h.succ⟩
theorem zf (p:l.Perm b):aw f l=aw f b:=by
 induction p with
 | nil=>rfl
 | cons x _ c=>show f x + _=f x + _;rw[c]
 | swap x y l=>show f y + (f x + aw f l)=f x + (f y + aw f l);lia
 | trans _ _ d e=>rw[d,e]
def N0 (p:rooms'.Perm rooms) (a:α):ah rooms' a=ah rooms a:=by
 unfold ah;exact decide_eq_decide.mpr p.mem_iff
def iE.turn (h:iE rooms w ring lt) (p:rooms'.Perm rooms) (t:∀x∈rooms,fZ (ring x) (ring' x)):iE rooms' w ring' lt:=by
 have mem:∀{x:α},x∈rooms' ↔ x∈rooms:=λ{x}=>p.mem_iff
 have u:et rooms' [w 0,w 1,w 2,w 3] ring':={
  fS:=p.nodup_iff.mpr h.C.fS
  cz:=λx hx=>h.C.cz x (mem.mp hx)
  nd:=λx hx=>(t x (mem.mp hx)).perm.nodup_iff.mpr (h.C.nd x (mem.mp hx))
  len:=λx hx=>by rw[(t x (mem.mp hx)).perm.length_eq];exact h.C.len x (mem.mp hx)
  mem:=λx hx y d=>(h.C.mem x (mem.mp hx) y ((t x (mem.mp hx)).perm.mem_iff.mp d)).imp mem.mpr id
  eG:=λx hx d=>h.C.eG x (mem.mp hx) ((t x (mem.mp hx)).perm.mem_iff.mp d)
  sym:=λx hx y d v=>(t y (mem.mp d)).perm.mem_iff.mpr (h.C.sym x (mem.mp hx) y (mem.mp d) ((t x (mem.mp hx)).perm.mem_iff.mp v))
  fE:=λx hx n m s f=>(t n (mem.mp f)).succ (h.C.fE x (mem.mp hx) n m ((t x (mem.mp hx)).dC.mp s) (mem.mp f))
  fI:=λx hx n m s A=>(t m (mem.mp A)).succ (h.C.fI x (mem.mp hx) n m ((t x (mem.mp hx)).dC.mp s) (mem.mp A)) }
 have row:∀{wl a:α}{l:List α},Row rooms ring wl a l->Row rooms' ring' wl a l:=λ{wl a l} r=>by
  induction r with
  | stop f=>exact .stop λz=>f (mem.mp z)
  | go B s _ i=>exact .go (mem.mpr B) ((t _ B).succ s) i
 have D:∀k x,x∈reach rooms [w 0,w 1,w 2,w 3] ring k->x∈reach rooms' [w 0,w 1,w 2,w 3] ring' k:=by
  intro k;induction k with
  | zero=>exact λx hx=>hx
  | succ k i =>
   intro x hx
   rcases ee.mp hx with hx | hx
   ·exact ee.mpr (.inl hx)
   ·obtain⟨g,E⟩:=ft.mp hx;obtain⟨y,d,e⟩:=j3.mp E;refine ee.mpr (.inr (ft.mpr ⟨mem.mpr g,j3.mpr ⟨y,(t x g).perm.mem_iff.mpr d,?_⟩⟩));exact decide_eq_true (i y (of_decide_eq_true e))
 refine⟨u,h.l6,λx hx j k F o s=>h.ww x (mem.mp hx) j k F o ((t x (mem.mp hx)).dC.mp s),λk o=>?_,λx hx=>?_,?_⟩
 ·obtain⟨x,hx,g,l,r,n,e⟩:=h.row k o;refine⟨x,mem.mpr hx,λy d=>?_,l,row r,n,λy=>?_⟩
  ·rw[(t y (mem.mp d)).dC];exact g y (mem.mp d)
  ·rw[e y];constructor
   ·rintro⟨a,b⟩;exact⟨mem.mpr a,(t y a).perm.mem_iff.mpr b⟩
   ·rintro⟨a,b⟩;exact⟨mem.mp a,(t y (mem.mp a)).perm.mem_iff.mp b⟩
 ·rw[p.length_eq];exact D _ x (h.all x (mem.mp hx))
 ·have q:ah rooms'=ah rooms:=funext (N0 p);have G:canon rooms' lt=canon rooms lt:=by unfold canon;rw[q]
  have c:(corners rooms' ring').countP (canon rooms' lt)=(corners rooms ring).countP (canon rooms lt):=by
   rw[G];refine List.Perm.countP_eq _ ((kH (jk u) (jk h.C)).mpr ?_);rintro⟨x,n,m⟩;rw[d8,d8,mem];constructor
   ·rintro⟨a,b⟩;exact⟨a,(t x a).dC.mp b⟩
   ·rintro⟨a,b⟩;exact⟨a,(t x a).dC.mpr b⟩
  have H:aw (λx=>(ring' x).countP λy=>!ah rooms' y) rooms'=aw (λx=>(ring x).countP λy=>!ah rooms y) rooms:=by
   rw[zf p,q];exact cC λx hx=>(t x hx).perm.countP_eq _
  have I:aw (λx=>(ring' x).countP λy=>ah rooms' y && lt x y) rooms'=aw (λx=>(ring x).countP λy=>ah rooms y && lt x y) rooms:=by
   rw[zf p,q];exact cC λx hx=>(t x hx).perm.countP_eq _
  rw[c,H,I,p.length_eq];exact h.wt
end
end Tl
end
section
namespace Tl
open Hs
section
variable {α β:Type} [DecidableEq α] [DecidableEq β]
theorem aD.map (ν:α->β)(h:aD l n m):aD (l.map ν) (ν n) (ν m):=by
 obtain⟨i,a,b⟩:=h;exact⟨i,by rw[cn,a];rfl,by simp only[a8,cn,b];rfl⟩
def aD.of_map (h:aD (l.map ν) a b):∃n m,a=ν n/\b=ν m/\aD l n m:=by
 obtain⟨i,d,c⟩:=h;rw[cn] at d c;rw[a8] at c;obtain⟨n,e,rfl⟩:=g0.mp d;obtain⟨m,f,rfl⟩:=g0.mp c;exact⟨n,m,rfl,rfl,i,e,f⟩
end
section
variable {bx:Ob}{os:List Ob}{β:Type} [DecidableEq β] {ν:Ob->β}{ring':β->List β}{lt:β->β->Bool}
def jH (a:bx.ok)(hj:j < 4)(hk:k < 4)(h:wall bx j=wall bx k):j=k:=by
 unfold Ob.ok at a;have c:j=0\/j=1\/j=2\/j=3:=by lia
 have d:k=0\/k=1\/k=2\/k=3:=by lia
 have e:wall bx 0=wN bx:=rfl;have f:wall bx 1=wE bx:=rfl;have g:wall bx 2=wS bx:=rfl;have i:wall bx 3=wW bx:=rfl;have m:=congrArg Ob.l h;have n:=congrArg Ob.b h;have o:=congrArg Ob.r h;have p:=congrArg Ob.t h
 rcases c with rfl | rfl | rfl | rfl <;> rcases d with rfl | rfl | rfl | rfl <;> first | rfl | (exfalso;simp only[e,f,g,i,wN,wE,wS,wW] at m n o p;lia)
def az.uU (T:az bx os) (u:bx.ok) (nd:(os++walls bx).Nodup) (inj:∀a∈os++walls bx,∀b∈os++walls bx,ν a=ν b->a=b) (A:∀x∈os,ring' (ν x)=(bj (os++walls bx) x).map ν) (O:Order lt):iE (os.map ν) (λk=>ν (wall bx k)) ring' lt:=by
 have C:=T.closed u nd;have v:∀{a:Ob},a∈os->a∈os++walls bx:=λh=>ee.mpr (.inl h)
 have E:∀{a:Ob},a∈walls bx->a∈os++walls bx:=λh=>ee.mpr (.inr h)
 have o:∀{x y:Ob},y∈bj (os++walls bx) x->y∈os++walls bx:=λh=>(gN.mp h).1
 have inR:∀{y:Ob},y∈os++walls bx->ν y∈os.map ν->y∈os:=λ{y} d h=>by
  obtain⟨z,H,e⟩:=a9.mp h;rw[<- inj z (v H) y d e];exact H
 have D:∀{x n m:Ob},x∈os->n∈os++walls bx->m∈os++walls bx->(aD (ring' (ν x)) (ν n) (ν m) ↔ aD (bj (os++walls bx) x) n m):=λ{x n m} hx I M=>by
  rw[A x hx];constructor
  ·intro h;obtain⟨S,U,V,W,s⟩:=h.of_map;simp only[inj n I S (o s.mem.1) V,inj m M U (o s.mem.2) W];exact s
  ·exact λs=>s.map ν
 have N:et (os.map ν) ((walls bx).map ν) ring':={
  fS:=hF.mpr (C.fS.imp_of_mem λi t B e=>B (inj _ (v i) _ (v t) e))
  cz:=λa i hw=>by
   obtain⟨x,hx,rfl⟩:=a9.mp i;obtain⟨y,d,e⟩:=a9.mp hw;have:=inj y (E d) x (v hx) e;subst this;exact C.cz y hx d
  nd:=λa i=>by
   obtain⟨x,hx,rfl⟩:=a9.mp i;rw[A x hx];exact hF.mpr ((C.nd x hx).imp_of_mem λi t B e=>B (inj _ (o i) _ (o t) e))
  len:=λa i=>by
   obtain⟨x,hx,rfl⟩:=a9.mp i;rw[A x hx,a8];exact C.len x hx
  mem:=λa i b t=>by
   obtain⟨x,hx,rfl⟩:=a9.mp i;rw[A x hx] at t;obtain⟨y,d,rfl⟩:=a9.mp t;exact (C.mem x hx y d).imp (λh=>a9.mpr ⟨y,h,rfl⟩) (λh=>a9.mpr ⟨y,h,rfl⟩)
  eG:=λa i t=>by
   obtain⟨x,hx,rfl⟩:=a9.mp i;rw[A x hx] at t;obtain⟨y,d,e⟩:=a9.mp t;have:=inj y (o d) x (v hx) e;subst this;exact C.eG y hx d
  sym:=λa i b t h=>by
   obtain⟨x,hx,rfl⟩:=a9.mp i;obtain⟨y,d,rfl⟩:=a9.mp t;rw[A x hx] at h;obtain⟨z,H,e⟩:=a9.mp h;have:=inj z (o H) y (v d) e;subst this;rw[A z d];exact a9.mpr ⟨x,C.sym x hx z d H,rfl⟩
  fE:=λa i b c s t=>by
   obtain⟨x,hx,rfl⟩:=a9.mp i;have s':=s;rw[A x hx] at s';obtain⟨n,m,rfl,rfl,F⟩:=s'.of_map;have I:=inR (o F.mem.1) t;exact (D I (o F.mem.2) (v hx)).mpr (C.fE x hx n m F I)
  fI:=λa i b c s hc=>by
   obtain⟨x,hx,rfl⟩:=a9.mp i;have s':=s;rw[A x hx] at s';obtain⟨n,m,rfl,rfl,F⟩:=s'.of_map;have M:=inR (o F.mem.2) hc;exact (D M (v hx) (o F.mem.1)).mpr (C.fI x hx n m F M) }
 have row:∀{w a:Ob}{l:List Ob},w∈walls bx->a∈os++walls bx->Row os (bj (os++walls bx)) w a l->Row (os.map ν) ring' (ν w) (ν a) (l.map ν):=λ{w a l} hw i r=>by
  induction r with
  | stop I=>exact .stop λz=>I (inR i z)
  | @go a p l h s _ J=>exact .go (a9.mpr ⟨a,h,rfl⟩) ((D h (o s.mem.1) (E hw)).mpr s) (J (o s.mem.1))
 have X:∀k x,x∈os++walls bx->x∈reach os (walls bx) (bj (os++walls bx)) k->ν x∈reach (os.map ν) ((walls bx).map ν) ring' k:=by
  intro k;induction k with
  | zero=>exact λx _ hx=>a9.mpr ⟨x,hx,rfl⟩
  | succ k J =>
   intro x hN hx
   rcases ee.mp hx with hx | hx
   ·exact ee.mpr (.inl (a9.mpr ⟨x,hx,rfl⟩))
   ·obtain⟨P,K⟩:=ft.mp hx;obtain⟨y,d,e⟩:=j3.mp K;refine ee.mpr (.inr (ft.mpr ⟨a9.mpr ⟨x,P,rfl⟩,j3.mpr ⟨ν y,?_,?_⟩⟩))
    ·rw[A x P];exact a9.mpr ⟨y,d,rfl⟩
    ·exact decide_eq_true (J y (o d) (of_decide_eq_true e))
 have Q:∀{y:Ob},y∈os++walls bx->ah (os.map ν) (ν y)=ah os y:=λ{y} d=>by
  unfold ah;refine decide_eq_decide.mpr ⟨inR d,λh=>a9.mpr ⟨y,h,rfl⟩⟩
 have L:∀(f:β->Nat) (g:Ob->Nat),(∀x∈os,f (ν x)=g x)->aw f (os.map ν)=aw g os:=λf g h=>by
  have:∀l:List Ob,(∀x∈l,f (ν x)=g x)->aw f (l.map ν)=aw g l:=by
   intro l;induction l with
   | nil=>intro _;rfl
   | cons a l J =>
    intro h;show f (ν a) + aw f (l.map ν)=g a + aw g l;simp only[h a (by simp),J λx hx=>h x (by simp[hx])]
  exact this os h
 have Y:aw (λx=>(ring' x).countP (ah (os.map ν))) (os.map ν)=aw (λx=>(bj (os++walls bx) x).countP (ah os)) os:=L _ _ λx hx=>by
  rw[A x hx,ll];exact pv λy d=>by show ah (os.map ν) (ν y)=true ↔ _;rw[Q (o d)]
 have Z:aw (λx=>(ring' x).countP λy=>!ah (os.map ν) y) (os.map ν)=aw (λx=>(bj (os++walls bx) x).countP λy=>!ah os y) os:=L _ _ λx hx=>by
  rw[A x hx,ll];exact pv λy d=>by show (!ah (os.map ν) (ν y))=true ↔ _;rw[Q (o d)]
 have a3:((Tl.corners (os.map ν) ring').countP λc=>!ah (os.map ν) c.2.1 && !ah (os.map ν) c.2.2)=4:=by
  rw[<- T.N6 u nd];have pm:(Tl.corners (os.map ν) ring').Perm ((Tl.corners os (bj (os++walls bx))).map λc=>(ν c.1,ν c.2.1,ν c.2.2)):=by
   refine (kH (jk N) (hF.mpr ((jk C).imp_of_mem ?_))).mpr ?_
   ·rintro⟨x,n,m⟩ ⟨x',S,U⟩ h h' B e;obtain⟨hx,s⟩:=d8.mp h;obtain⟨be,s'⟩:=d8.mp h';simp only[TU] at e;exact B (by simp only[inj x (v hx) x' (v be) e.1,inj n (o s.mem.1) S (o s'.mem.1) e.2.1,inj m (o s.mem.2) U (o s'.mem.2) e.2.2])
   ·rintro⟨a,b,c⟩;rw[d8];constructor
    ·rintro⟨i,s⟩;obtain⟨x,hx,rfl⟩:=a9.mp i;rw[A x hx] at s;obtain⟨n,m,rfl,rfl,F⟩:=s.of_map;exact a9.mpr ⟨(x,n,m),d8.mpr ⟨hx,F⟩,rfl⟩
    ·intro h;obtain⟨⟨x,n,m⟩,K,e⟩:=a9.mp h;cases e;obtain⟨hx,s⟩:=d8.mp K;exact⟨a9.mpr ⟨x,hx,rfl⟩,(D hx (o s.mem.1) (o s.mem.2)).mpr s⟩
  rw[pm.countP_eq,ll];refine pv ?_;rintro⟨x,n,m⟩ h;obtain⟨hx,s⟩:=d8.mp h;show (!ah (os.map ν) (ν n) && !ah (os.map ν) (ν m))=true ↔ _;rw[Q (o s.mem.1),Q (o s.mem.2)]
 have b1:=N.least O;have b2:=N.half O;have b3:=T.sums u nd;refine⟨N,?_,?_,?_,?_,?_⟩
 ·show ((walls bx).map ν).Nodup;exact hF.mpr ((ia.mp nd).2.1.imp_of_mem λi t B e=>B (inj _ (E i) _ (E t) e))
 ·intro a i j k R G s;obtain⟨x,hx,rfl⟩:=a9.mp i;have s:=(D hx (E (eP bx j)) (E (eP bx k))).mp s;have f:=(T.iI u hx (eP bx j) (eP bx k)).mp ((T.dC u hx nd (.inr (eP bx j)) (.inr (eP bx k))).mp s);have e0:wN bx=wall bx 0:=rfl;have V:wE bx=wall bx 1:=rfl;have W:wS bx=wall bx 2:=rfl;have e3:wW bx=wall bx 3:=rfl;rw[e0,V,W,e3] at f
  rcases f with⟨p,q,_⟩ | ⟨p,q,_⟩ | ⟨p,q,_⟩ | ⟨p,q,_⟩
  ·rw[jH u R (by decide) p,jH u G (by decide) q]
  ·rw[jH u R (by decide) p,jH u G (by decide) q]
  ·rw[jH u R (by decide) p,jH u G (by decide) q]
  ·rw[jH u R (by decide) p,jH u G (by decide) q]
 ·intro k G;obtain⟨x,hx,P,K,h3⟩:=T.first u nd G
  obtain⟨l,r,n,e⟩:=T.row u nd G hx P K;refine⟨ν x,a9.mpr ⟨x,hx,rfl⟩,λb t=>?_,l.map ν,row (eP bx k) (v hx) r,hF.mpr (n.imp_of_mem λi t B e'=>B (inj _ (v ((e _).mp i).1) _ (v ((e _).mp t).1) e')),λb=>?_⟩
  ·obtain⟨y,d,rfl⟩:=a9.mp t;rw[D d (E (eP bx k)) (E (eP bx _)),h3 y d];exact⟨λh=>by rw[h],λh=>inj y (v d) x (v hx) h⟩
  ·rw[a9];constructor
   ·rintro⟨y,d,rfl⟩;obtain⟨p,q⟩:=(e y).mp d;refine⟨a9.mpr ⟨y,p,rfl⟩,?_⟩;rw[A y p];exact a9.mpr ⟨_,(T.tied u p G).mpr q,rfl⟩
   ·rintro⟨p,q⟩;obtain⟨y,d,rfl⟩:=a9.mp p;rw[A y d] at q;obtain⟨z,H,ez⟩:=a9.mp q;have:=inj z (o H) _ (E (eP bx k)) ez;subst this;exact⟨y,(e y).mpr ⟨d,(T.tied u d G).mp H⟩,rfl⟩
 ·intro a i;obtain⟨x,hx,rfl⟩:=a9.mp i;rw[a8];exact X _ x (v hx) (T.all_reached u nd hx)
 ·rw[Y,Z,a3] at b1;rw[Y] at b2;rw[Z,a8]
  lia
end
end Tl
end
section
namespace Tl
section
variable {α:Type} [DecidableEq α] {rooms rooms' walls:List α}{w:Nat->α}{ring ring':α->List α}{lt:α->α->Bool}{a b x q:α}
structure pJ (l:List α) (n m q:α) (l':List α):Prop where
 perm:l'.Perm (q::l)
 succ:∀u v,aD l' u v ↔ (aD l u v/\¬(u=n/\v=m))\/(u=n/\v=q)\/(u=q/\v=m)
def NU (nd:l.Nodup)(hl:3<=l.length)(p:l[i]? = some n)(D:l[(i + 1) % l.length]? = some m):pJ l n m q (l.take (i + 1)++q::l.drop (i + 1)):=by
 have hi:=(bc.mp p).1;have len:(l.take (i + 1)++q::l.drop (i + 1)).length=l.length + 1:=by simp;lia
 have o:∀j,j<=i->(l.take (i + 1)++q::l.drop (i + 1))[j]? = l[j]?:=λj r=>by
  rw[hH (by rw[gg];omega),Uj,if_pos (by lia)]
 have y:(l.take (i + 1)++q::l.drop (i + 1))[i + 1]? = some q:=by
  rw[hO (by rw[gg];lia),gg,V6 (by lia),YQ]
  rfl
 have A:∀j,i < j->(l.take (i + 1)++q::l.drop (i + 1))[j + 1]? = l[j]?:=λj r=>by
  rw[hO (by rw[gg];omega),gg,V6 (by lia),show j + 1 - (i + 1)=(j - (i + 1)) + 1 from by lia,Wr,Vq]
  congr 1;omega
 refine⟨List.perm_middle.trans (by rw[qt]),λu v=>?_⟩
 generalize l.take (i + 1)++q::l.drop (i + 1)=g at *;have nx:∀j t,j≠i->j < l.length->t=(if j < i then j else j + 1)->g[t]? = l[j]?/\g[(t + 1) % g.length]? = l[(j + 1) % l.length]?:=λj t r hl' e=>by
  rw[len,e]
  by_cases c:j < i
  ·rw[if_pos c];exact⟨o j (by omega),by rw[kx (by lia),kx (by lia)];exact o _ (by omega)⟩
  ·rw[if_neg c];refine⟨A j (by lia),?_⟩
   by_cases s:j + 1=l.length
   ·rw[s,yv,yv];exact o 0 (by lia)
   ·rw[kx (by omega),kx (by omega)]
    exact A (j + 1) (by omega)
 have n1:g[(i + 1) % g.length]? = some q:=by rw[len,kx (by lia)];exact y
 have n2:g[(i + 1 + 1) % g.length]? = some m:=by
  rw[len,<- D]
  by_cases s:i + 1=l.length
  ·rw[s,yv,yv];exact o 0 (by lia)
  ·rw[kx (by omega),kx (by omega)]
   exact A (i + 1) (by lia)
 constructor
 ·rintro⟨j,d,f⟩;have r:=(bc.mp d).1
  by_cases H:j=i
  ·subst H;rw[o j (eS _),p] at d;rw[n1] at f;exact .inr (.inl ⟨(Option.some.inj d).symm,(Option.some.inj f).symm⟩)
  ·by_cases s:j=i + 1
   ·subst s;rw[y] at d;rw[n2] at f;exact .inr (.inr ⟨(Option.some.inj d).symm,(Option.some.inj f).symm⟩)
   ·obtain⟨k,E,F,I⟩:∃k,k≠i/\k < l.length/\j=(if k < i then k else k + 1):=by
     by_cases c:j < i
     ·exact⟨j,by omega,by lia,(if_pos c).symm⟩
     ·exact⟨j - 1,by omega,by omega,by rw[if_neg (by omega)];lia⟩
    obtain⟨B,C⟩:=nx k j E F I;rw[B] at d;rw[C] at f;exact .inl ⟨⟨k,d,f⟩,λz=>E (jC nd (by rw[d,z.1]) p)⟩
 ·rintro (⟨⟨j,d,f⟩,h⟩ | ⟨rfl,rfl⟩ | ⟨rfl,rfl⟩)
  ·have r:=(bc.mp d).1;have G:j≠i:=λz=>h (by
    subst z;rw[p] at d;rw[D] at f;exact⟨(Option.some.inj d).symm,(Option.some.inj f).symm⟩)
   obtain⟨B,C⟩:=nx j _ G r rfl;exact⟨_,B.trans d,C.trans f⟩
  ·exact⟨i,(o i (eS _)).trans p,n1⟩
  ·exact⟨i + 1,y,n2⟩
structure gE (rooms walls:List α) (ring:α->List α) (x a b q:α) (ring':α->List α):Prop where
 hx:x∈rooms
 ab:aD (ring x) a b
 qr:q∉rooms
 qw:q∉walls
 rq:ring' q=[x,a,b]
 rx:pJ (ring x) a b q (ring' x)
 ra:a∈rooms->pJ (ring a) b x q (ring' a)
 rb:b∈rooms->pJ (ring b) x a q (ring' b)
 ro:∀y∈rooms,y≠x->y≠a->y≠b->ring' y=ring y
def LZ (h:x≠a/\x≠b/\a≠b):aD [x,a,b] u v ↔ (u=x/\v=a)\/(u=a/\v=b)\/(u=b/\v=x):=by
 constructor
 ·rintro⟨i,c,d⟩;have e:=(bc.mp c).1;simp only[fk,wm] at e;have:i=0\/i=1\/i=2:=by lia
  rcases this with rfl | rfl | rfl <;> simp at c d <;> simp[c,d]
 ·rintro (⟨rfl,rfl⟩ | ⟨rfl,rfl⟩ | ⟨rfl,rfl⟩)
  ·exact⟨0,rfl,rfl⟩
  ·exact⟨1,rfl,rfl⟩
  ·exact⟨2,rfl,by simp⟩
section
variable (C:et rooms walls ring) (p:gE rooms walls ring x a b q ring')
include C p
def gE.facts:x≠a/\x≠b/\a≠b/\(a∈rooms\/a∈walls)/\(b∈rooms\/b∈walls)/\q≠x/\q≠a/\q≠b/\(a∈rooms->aD (ring a) b x)/\(b∈rooms->aD (ring b) x a):=by
 obtain⟨f,g,h⟩:=C.apart p.hx p.ab;have c:=C.mem x p.hx a p.ab.mem.1;have d:=C.mem x p.hx b p.ab.mem.2;refine⟨f,g,h,c,d,λe=>p.qr (e ▸ p.hx),?_,?_,C.fE x p.hx a b p.ab,C.fI x p.hx a b p.ab⟩
 ·rintro rfl;exact c.elim p.qr p.qw
 ·rintro rfl;exact d.elim p.qr p.qw
theorem gE.succ (c:z∈q::rooms):aD (ring' z) u v ↔ (z∈rooms/\aD (ring z) u v/\¬(z=x/\u=a/\v=b)/\¬(z=a/\u=b/\v=x)/\¬(z=b/\u=x/\v=a))\/(z=x/\u=a/\v=q)\/(z=x/\u=q/\v=b)\/(z=a/\a∈rooms/\u=b/\v=q)\/(z=a/\a∈rooms/\u=q/\v=x)\/(z=b/\b∈rooms/\u=x/\v=q)\/(z=b/\b∈rooms/\u=q/\v=a)\/(z=q/\u=x/\v=a)\/(z=q/\u=a/\v=b)\/(z=q/\u=b/\v=x):=by
 obtain⟨h,i,j,h4,h5,h6,h7,h8,h9,h10⟩:=p.facts C
 rcases cR.mp c with rfl | c
 ·rw[p.rq,LZ ⟨h,i,j⟩];have:=p.qr
  simp_all
 ·have hq:z≠q:=λe=>p.qr (e ▸ c)
  by_cases d:z=x
  ·subst d;rw[p.rx.succ]
   simp_all
  ·by_cases f:z=a
   ·subst f;rw[(p.ra c).succ]
    simp_all
   ·by_cases g:z=b
    ·subst g;rw[(p.rb c).succ]
     simp_all
    ·simp only[p.ro z c d f g]
     simp_all
def gE.mem (c:z∈q::rooms):y∈ring' z ↔ (z∈rooms/\y∈ring z)\/(y=q/\z∈rooms/\(z=x\/z=a\/z=b))\/(z=q/\(y=x\/y=a\/y=b)):=by
 obtain⟨h1,h2,h3,h4,h5,h6,h7,h8,h9,h10⟩:=p.facts C
 rcases cR.mp c with rfl | c
 ·rw[p.rq];have:=p.qr;simp only[cR,fm,or_false]
  simp_all
 ·have hq:z≠q:=λe=>p.qr (e ▸ c)
  by_cases d:z=x
  ·subst d;rw[p.rx.perm.mem_iff,cR]
   grind
  ·by_cases f:z=a
   ·subst f;rw[(p.ra c).perm.mem_iff,cR]
    grind
   ·by_cases g:z=b
    ·subst g;rw[(p.rb c).perm.mem_iff,cR]
     grind
    ·rw[p.ro z c d f g]
     simp_all
def gE.closed:et (q::rooms) walls ring':=by
 obtain⟨h1,h2,h3,h4,h5,h6,r,t,h9,h10⟩:=p.facts C;have S:=λz u v (f:z∈q::rooms)=>p.succ C (u:=u) (v:=v) f
 have M:=λz y (f:z∈q::rooms)=>p.mem C (y:=y) f
 have A:∀z∈rooms,q∉ring z:=λz f e=>(C.mem z f q e).elim p.qr p.qw
 have F:∀z u v,z∈rooms->aD (ring z) u v->u≠q/\v≠q:=λz u v f s=>⟨λe=>A z f (e ▸ s.mem.1),λe=>A z f (e ▸ s.mem.2)⟩
 have G:∀z∈rooms,ring' z=ring z\/(ring' z).Perm (q::ring z):=λz f=>by
  by_cases B:z=x
  ·subst B;exact .inr p.rx.perm
  ·by_cases H:z=a
   ·subst H;exact .inr (p.ra f).perm
   ·by_cases I:z=b
    ·subst I;exact .inr (p.rb f).perm
    ·exact .inl (p.ro z f B H I)
 exact {
  fS:=ib.mpr ⟨p.qr,C.fS⟩
  cz:=λz f=>by
   rcases cR.mp f with rfl | f
   ·exact p.qw
   ·exact C.cz z f
  nd:=λz f=>by
   rcases cR.mp f with rfl | f
   ·rw[p.rq];simp;simp_all
   ·rcases G z f with e | e
    ·rw[e];exact C.nd z f
    ·exact e.nodup_iff.mpr (ib.mpr ⟨A z f,C.nd z f⟩)
  len:=λz f=>by
   rcases cR.mp f with rfl | f
   ·rw[p.rq];simp
   ·have:=C.len z f
    rcases G z f with e | e
    ·rw[e];exact this
    ·simp only[e.length_eq,fk];lia
  mem:=λz f y k=>by
   have:=C.mem z;have:=p.hx;simp only[M z y f] at k;rw[cR]
   grind
  eG:=λz f k=>by
   have:=C.eG z;have:=p.qr;rw[M z z f] at k
   grind
  sym:=λz f y k J=>by
   have m1:=p.ab.mem;have:=p.qr;have:=C.sym z;have:=C.sym y;have:=A z;have B:=C.sym x p.hx;have:=p.hx;rw[M z y f] at J;rw[M y z k];simp only[cR] at f k
   grind
  fE:=λz f n m s l=>by
   rw[S n m z l];have h:n≠q->n∈rooms:=(cR.mp l).resolve_left
   rcases (S z n m f).mp s with⟨i,s,n1,n2,n3⟩ | ⟨g,c,d⟩ | ⟨g,c,d⟩ | ⟨g,D,c,d⟩ | ⟨g,D,c,d⟩ | ⟨g,E,c,d⟩ | ⟨g,E,c,d⟩ | ⟨g,c,d⟩ | ⟨g,c,d⟩ | ⟨g,c,d⟩
   ·have l:=h (F z n m i s).1;exact .inl ⟨l,C.fE z i n m s l,λe=>n3 ⟨e.2.2,e.1,e.2.1⟩,λe=>n1 ⟨e.2.2,e.1,e.2.1⟩,λe=>n2 ⟨e.2.2,e.1,e.2.1⟩⟩
   ·exact .inr (.inr (.inr (.inr (.inl ⟨c,c ▸ h (c ▸ r.symm),d,g⟩))))
   ·exact .inr (.inr (.inr (.inr (.inr (.inr (.inr (.inr (.inr (⟨c,d,g⟩)))))))))
   ·exact .inr (.inr (.inr (.inr (.inr (.inr (.inl ⟨c,c ▸ h (c ▸ t.symm),d,g⟩))))))
   ·exact .inr (.inr (.inr (.inr (.inr (.inr (.inr (.inl ⟨c,d,g⟩)))))))
   ·exact .inr (.inr (.inl ⟨c,d,g⟩))
   ·exact .inr (.inr (.inr (.inr (.inr (.inr (.inr (.inr (.inl ⟨c,d,g⟩))))))))
   ·exact .inr (.inl ⟨c,d,g⟩)
   ·exact .inr (.inr (.inr (.inl ⟨c,c ▸ h (c ▸ r.symm),d,g⟩)))
   ·exact .inr (.inr (.inr (.inr (.inr (.inl ⟨c,c ▸ h (c ▸ t.symm),d,g⟩)))))
  fI:=λz f n m s o=>by
   rw[S m z n o];have j:m≠q->m∈rooms:=(cR.mp o).resolve_left
   rcases (S z n m f).mp s with⟨i,s,n1,n2,n3⟩ | ⟨g,c,d⟩ | ⟨g,c,d⟩ | ⟨g,D,c,d⟩ | ⟨g,D,c,d⟩ | ⟨g,E,c,d⟩ | ⟨g,E,c,d⟩ | ⟨g,c,d⟩ | ⟨g,c,d⟩ | ⟨g,c,d⟩
   ·have o:=j (F z n m i s).2;exact .inl ⟨o,C.fI z i n m s o,λe=>n2 ⟨e.2.1,e.2.2,e.1⟩,λe=>n3 ⟨e.2.1,e.2.2,e.1⟩,λe=>n1 ⟨e.2.1,e.2.2,e.1⟩⟩
   ·exact .inr (.inr (.inr (.inr (.inr (.inr (.inr (.inl ⟨d,g,c⟩)))))))
   ·exact .inr (.inr (.inr (.inr (.inr (.inl ⟨d,d ▸ j (d ▸ t.symm),g,c⟩)))))
   ·exact .inr (.inr (.inr (.inr (.inr (.inr (.inr (.inr (.inl ⟨d,g,c⟩))))))))
   ·exact .inr (.inl ⟨d,g,c⟩)
   ·exact .inr (.inr (.inr (.inr (.inr (.inr (.inr (.inr (.inr (⟨d,g,c⟩)))))))))
   ·exact .inr (.inr (.inr (.inl ⟨d,d ▸ j (d ▸ r.symm),g,c⟩)))
   ·exact .inr (.inr (.inr (.inr (.inl ⟨d,d ▸ j (d ▸ r.symm),g,c⟩))))
   ·exact .inr (.inr (.inr (.inr (.inr (.inr (.inl ⟨d,d ▸ j (d ▸ t.symm),g,c⟩))))))
   ·exact .inr (.inr (.inl ⟨d,g,c⟩)) }
end
end
end Tl
end
section
namespace Tl
section
variable {α:Type} [DecidableEq α] {rooms rooms' walls:List α}{w:Nat->α}{ring ring':α->List α}{lt:α->α->Bool}{a b x q:α}
def aD.before {l:List α}(nd:l.Nodup) {p c v:α}(h:aD l p v) (h':aD l c v):p=c:=by
 obtain⟨i,d,m⟩:=h;obtain⟨j,g,n⟩:=h';have o:=(bc.mp d).1;have r:=(bc.mp g).1;have e:=jC nd m n;have f:∀k,k < l.length->(k + 1) % l.length=if k + 1=l.length then 0 else k + 1:=λk hk=>by
  split
  ·rename_i z;rw[z,yv]
  ·exact kx (by lia)
 simp only[f i o,f j r] at e;have:i=j:=by split at e <;> split at e <;> lia
 subst this;exact Option.some.inj (d.symm.trans g)
theorem rM (nd:∀z∈rooms,(ring z).Nodup)(n:s∈rooms->aD (ring s) p0 W/\aD (ring' s) q W/\aD (ring' q) p0 W)(st:∀y∈rooms,∀p,aD (ring y) p W->p≠q/\(y≠s->aD (ring' y) p W))(r:Row rooms ring W y l) :
  y≠q->l.Nodup->∃e,Row (q::rooms) ring' W y e/\(s∈l->e.Perm (q::l))/\(s∉l->e=l):=by
 induction r with
 | stop h=>exact λi _=>⟨[],.stop (by simp[i,h]),λz=>(by cases z),λ_=>rfl⟩
 | @go y p l d f _ o =>
  intro i t;obtain⟨j,k⟩:=ib.mp t;obtain⟨u,g,v,m⟩:=o (st y d p f).1 k
  by_cases c:y=s
  ·subst c;obtain⟨A,B,C⟩:=n d;simp only[f.before (nd y d) A,m j] at g;exact⟨y::q::l,.go (ew _ d) B (.go eH C g),λ_=>.swap _ _ _,λz=>absurd eH z⟩
  ·refine⟨y::u,.go (ew _ d) ((st y d p f).2 c) g,λz=>?_,λz=>?_⟩
   ·exact ((v ((cR.mp z).resolve_left (Ne.symm c))).cons y).trans (.swap _ _ _)
   ·rw[m λh=>z (ew _ h)]
def yF (C:et rooms [w 0,w 1,w 2,w 3] ring) (l6:[w 0,w 1,w 2,w 3].Nodup) (ww:∀x∈rooms,∀j k,j < 4->k < 4->aD (ring x) (w j) (w k)->k=(j + 1) % 4) (f:∀k,k < 4->∃x∈rooms,∀y∈rooms,aD (ring y) (w k) (w ((k + 1) % 4)) ↔ y=x) :
  ((corners rooms ring).countP λc=>!ah rooms c.2.1 && !ah rooms c.2.2)=4:=by
 obtain⟨A,h,i⟩:=f 0 (by decide)
 obtain⟨B,l,m⟩:=f 1 (by decide)
 obtain⟨D,n,o⟩:=f 2 (by decide)
 obtain⟨E,p,r⟩:=f 3 (by decide)
 have cz:∀k,k < 4->w k∉rooms:=λk t F=>C.cz _ F (by
  have:k=0\/k=1\/k=2\/k=3:=by omega
  rcases this with rfl | rfl | rfl | rfl <;> simp)
 have at_:∀u,u∈[w 0,w 1,w 2,w 3]->∃k,k < 4/\u=w k:=λu g=>by
  simp only[cR,fm,or_false] at g
  rcases g with rfl | rfl | rfl | rfl
  ·exact⟨0,by decide,rfl⟩
  ·exact⟨1,by decide,rfl⟩
  ·exact⟨2,by decide,rfl⟩
  ·exact⟨3,by decide,rfl⟩
 rw[m4];have:((corners rooms ring).filter λc=>!ah rooms c.2.1 && !ah rooms c.2.2).Perm [(A,w 0,w 1),(B,w 1,w 2),(D,w 2,w 3),(E,w 3,w 0)]:=by
  refine (kH (j2 ma (jk C)) ?_).mpr ?_
  ·simp only[ib,cR,fm,or_false,not_or] at l6;simp
   grind
  ·rintro⟨z,u,v⟩;rw[ft,d8];simp only[ah,dV,nq,decide_eq_false_iff_not,cR,fm,or_false,TU];constructor
   ·rintro⟨⟨d,s⟩,g,G⟩;obtain⟨j,H,rfl⟩:=at_ u ((C.mem z d u s.mem.1).resolve_left g);obtain⟨k,t,rfl⟩:=at_ v ((C.mem z d v s.mem.2).resolve_left G);have e:=ww z d j k H t s;subst e;have:j=0\/j=1\/j=2\/j=3:=by omega
    rcases this with rfl | rfl | rfl | rfl
    ·exact .inl ⟨(i z d).mp s,rfl,rfl⟩
    ·exact .inr (.inl ⟨(m z d).mp s,rfl,rfl⟩)
    ·exact .inr (.inr (.inl ⟨(o z d).mp s,rfl,rfl⟩))
    ·exact .inr (.inr (.inr ⟨(r z d).mp s,rfl,rfl⟩))
   ·rintro (⟨rfl,rfl,rfl⟩ | ⟨rfl,rfl,rfl⟩ | ⟨rfl,rfl,rfl⟩ | ⟨rfl,rfl,rfl⟩)
    ·exact⟨⟨h,(i _ h).mpr rfl⟩,cz 0 (by decide),cz 1 (by decide)⟩
    ·exact⟨⟨l,(m _ l).mpr rfl⟩,cz 1 (by decide),cz 2 (by decide)⟩
    ·exact⟨⟨n,(o _ n).mpr rfl⟩,cz 2 (by decide),cz 3 (by decide)⟩
    ·exact⟨⟨p,(r _ p).mpr rfl⟩,cz 3 (by decide),cz 0 (by decide)⟩
 rw[this.length_eq];rfl
end
end Tl
end
section
namespace Tl
section
variable {α:Type} [DecidableEq α] {rooms rooms' walls:List α}{w:Nat->α}{ring ring':α->List α}{lt:α->α->Bool}{a b x q:α}
section
variable (C:et rooms walls ring) (p:gE rooms walls ring x a b q ring')
include C p
theorem gE.perm {z:α}(c:z∈rooms):(ring' z).Perm (if z=x\/z=a\/z=b then q::ring z else ring z):=by
 by_cases d:z=x
 ·subst d;rw[if_pos (by simp)];exact p.rx.perm
 ·by_cases e:z=a
  ·subst e;rw[if_pos (by simp)];exact (p.ra c).perm
  ·by_cases f:z=b
   ·subst f;rw[if_pos (by simp)];exact (p.rb c).perm
   ·rw[if_neg (by simp[d,e,f]),p.ro z c d e f]
def gE.M2 (d:z∈rooms):(ring' z).countP (ah (q::rooms))=(ring z).countP (ah rooms) + (if (decide (z=x) || decide (z=a) || decide (z=b))=true then 1 else 0):=by
 have f:q∉ring z:=λe=>(C.mem z d q e).elim p.qr p.qw
 have e:(ring z).countP (ah (q::rooms))=(ring z).countP (ah rooms):=by
  refine pv λy g=>?_
  have:y≠q:=λe=>f (e ▸ g)
  simp[ah,this]
 rw[(p.perm C d).countP_eq]
 by_cases c:z=x\/z=a\/z=b
 ·rw[if_pos c,if_pos (by simpa[or_assoc] using c),hY,e,if_pos (by simp[ah])]
 ·rw[if_neg c,if_neg (by simpa[or_assoc] using c),e]
  rfl
def gE.JM (d:z∈rooms):((ring' z).countP λy=>!ah (q::rooms) y)=(ring z).countP λy=>!ah rooms y:=by
 have f:q∉ring z:=λe=>(C.mem z d q e).elim p.qr p.qw
 have e:((ring z).countP λy=>!ah (q::rooms) y)=(ring z).countP λy=>!ah rooms y:=by
  refine pv λy g=>?_
  have:y≠q:=λe=>f (e ▸ g)
  simp[ah,this]
 rw[(p.perm C d).countP_eq]
 by_cases c:z=x\/z=a\/z=b
 ·rw[if_pos c,hY,e,if_neg (by simp[ah])]
  rfl
 ·rw[if_neg c,e]
def gE.ties:(rooms.countP λz=>decide (z=x) || decide (z=a) || decide (z=b))=1 + (if a∈rooms then 1 else 0) + (if b∈rooms then 1 else 0):=by
 obtain⟨h1,h2,h3,_⟩:=p.facts C;have cnt:∀c,rooms.countP (λz=>decide (z=c))=if c∈rooms then 1 else 0:=λc=>by
  split
  ·rename_i g;exact k8 C.fS ⟨c,g,by simp⟩ λu _ v _ d f=>by simp at d f;simp only[d,f]
  ·rename_i g;rw[mo];intro z h;simp;exact λe=>g (e ▸ h)
 have:=p.hx;have d:=fw (λz=>decide (z=x) || decide (z=a) || decide (z=b)) (λz=>decide (z=x)) rooms
 have f:=fw (λz=>(decide (z=x) || decide (z=a) || decide (z=b)) && !decide (z=x)) (λz=>decide (z=a)) rooms
 simp only[d,f];have i:(λz=>(decide (z=x) || decide (z=a) || decide (z=b)) && decide (z=x))=λz=>decide (z=x):=by funext z;simp_all
 have j:(λz=>(decide (z=x) || decide (z=a) || decide (z=b)) && !decide (z=x) && decide (z=a))=λz=>decide (z=a):=by funext z;grind
 have g3:(λz=>(decide (z=x) || decide (z=a) || decide (z=b)) && !decide (z=x) && !decide (z=a))=λz=>decide (z=b):=by funext z;grind
 simp only[i,j,g3,cnt,cnt,cnt,if_pos p.hx]
 lia
end
theorem Ai {C:et rooms walls ring}:∀k y,y∈reach rooms walls ring k->y∈reach rooms walls ring (k + 1)
 | 0,y,h=>ee.mpr (.inl h)
 | k + 1,y,h=>by
  rcases ee.mp h with h | h
  ·exact ee.mpr (.inl h)
  ·obtain⟨c,d⟩:=ft.mp h;obtain⟨z,f,e⟩:=j3.mp d;exact ee.mpr (.inr (ft.mpr ⟨c,j3.mpr ⟨z,f,decide_eq_true (Ai (C:=C) k z (of_decide_eq_true e))⟩⟩))
def iE.put (h:iE rooms w ring lt) (p:gE rooms [w 0,w 1,w 2,w 3] ring x a b q ring') (O:Order lt):iE (q::rooms) w ring' lt:=by
 have C:=h.C;have D:=p.closed C;obtain⟨h1,h2,h3,h4,h5,X,Y,Z,h9,P⟩:=p.facts C;have K:∀k,k < 4->w k∈[w 0,w 1,w 2,w 3]:=λk f=>by
  have:k=0\/k=1\/k=2\/k=3:=by lia
  rcases this with rfl | rfl | rfl | rfl <;> simp
 have at_:∀u,u∈[w 0,w 1,w 2,w 3]->∃k,k < 4/\u=w k:=λu hu=>by
  simp only[cR,fm,or_false] at hu
  rcases hu with rfl | rfl | rfl | rfl
  ·exact⟨0,by decide,rfl⟩
  ·exact⟨1,by decide,rfl⟩
  ·exact⟨2,by decide,rfl⟩
  ·exact⟨3,by decide,rfl⟩
 have E:∀k,k < 4->w k∉rooms/\w k≠q/\w k≠x:=λk f=>⟨λz=>C.cz _ z (K k f),λz=>p.qw (z ▸ K k f),λz=>C.cz x p.hx (z ▸ K k f)⟩
 have G:∀z u v,z∈rooms->aD (ring z) u v->u≠q/\v≠q:=λz u v d s=>⟨λe=>(C.mem z d u s.mem.1).elim (e ▸ p.qr) (e ▸ p.qw),λe=>(C.mem z d v s.mem.2).elim (e ▸ p.qr) (e ▸ p.qw)⟩
 have ww:∀z∈q::rooms,∀j k,j < 4->k < 4->aD (ring' z) (w j) (w k)->k=(j + 1) % 4:=λz d j k H f s=>by
  have w1:=E j H;have w2:=E k f;have o1:=λd=>h.ww z d j k H f
  have o2:=h.ww x p.hx j k H f;have ab:=p.ab;rw[p.succ C d] at s;clear D E K at_ G
  grind
 have row:∀k,k < 4->∃y∈q::rooms,(∀z∈q::rooms,aD (ring' z) (w k) (w ((k + 1) % 4)) ↔ z=y)/\∃l,Row (q::rooms) ring' (w k) y l/\l.Nodup/\∀z,z∈l ↔ z∈q::rooms/\w k∈ring' z:=λk f=>by
  obtain⟨o,A,Q,l,L,n,r⟩:=h.row k f;have w1:=E k f;have w2:=E ((k + 1) % 4) (Vw _ (by decide))
  have B:o≠q:=λe=>p.qr (e ▸ A)
  have I:∀z∈l,z∈rooms:=λz d=>((r z).mp d).1
  have qr:=p.qr;have hx:=p.hx;have ab:=p.ab;have M:∀z∈q::rooms,w k∈ring' z ↔ (z∈rooms/\w k∈ring z)\/(z=q/\(w k=a\/w k=b)):=λz d=>by
   rw[p.mem C d]
   simp_all
  have S:=λz u v (d:z∈rooms)=>p.succ C (u:=u) (v:=v) (ew q d)
  have R:=λu v=>p.succ C (u:=u) (v:=v) (eH (a:=q) (l:=rooms))
  by_cases N:w k=a/\w ((k + 1) % 4)=b
  ·have ex:x=o:=(Q x hx).mp (by simp only[N.1,N.2];exact ab)
   have m:b∉rooms:=N.2 ▸ w2.1;obtain⟨J,g,_,T⟩:=rM (ring':=ring') (s:=q) (p0:=q) C.nd (λz=>absurd z qr) (λy c u s=>⟨(G y u _ c s).1,λ_=>(S y u _ c).mpr (.inl ⟨c,s,by grind⟩)⟩) L B n
   rw[T λz=>qr (I q z)] at g
   refine⟨q,eH,λz d=>?_,q::l,.go eH ((R o _).mpr (by simp_all)) g,ib.mpr ⟨λz=>qr (I q z),n⟩,λz=>?_⟩
   ·rw[p.succ C d];have:=Q z
    simp_all
   ·have:=r z;have:=M z
    grind
  ·have O4:w k=a->b∈rooms:=λe=>h5.resolve_right λz=>by
    obtain⟨j,H,ej⟩:=at_ b z;have:=h.ww x hx k j f H (by simp only[e,<- ej];exact ab)
    exact N ⟨e,by rw[<- this,<- ej]⟩
   have F:∀z∈q::rooms,aD (ring' z) (w k) (w ((k + 1) % 4)) ↔ z=o:=λz d=>by
    rw[p.succ C d];have:=Q z
    grind
   by_cases U:w k=a
   ·have m:=O4 U;obtain⟨J,g,i,_⟩:=rM (ring':=ring') (s:=b) (p0:=x) C.nd (λ_=>⟨U ▸ P m,(S b q _ m).mpr (by simp_all),(R x _).mpr (by simp_all)⟩) (λy c u s=>⟨(G y u _ c s).1,λ_=>(S y u _ c).mpr (.inl ⟨c,s,by grind⟩)⟩) L B n
    have i:=i ((r b).mpr ⟨m,U ▸ (P m).mem.2⟩);refine⟨o,ew _ A,F,J,g,i.nodup_iff.mpr (ib.mpr ⟨λz=>qr (I q z),n⟩),λz=>?_⟩
    rw[i.mem_iff];have:=r z;have:=M z
    grind
   ·by_cases c2:w k=b
    ·obtain⟨J,g,i,_⟩:=rM (ring':=ring') (s:=x) (p0:=a) C.nd (λ_=>⟨c2 ▸ ab,(S x q _ hx).mpr (by simp_all),(R a _).mpr (by simp_all)⟩) (λy c u s=>⟨(G y u _ c s).1,λ_=>(S y u _ c).mpr (.inl ⟨c,s,by grind⟩)⟩) L B n
     have i:=i ((r x).mpr ⟨hx,c2 ▸ ab.mem.2⟩);refine⟨o,ew _ A,F,J,g,i.nodup_iff.mpr (ib.mpr ⟨λz=>qr (I q z),n⟩),λz=>?_⟩
     rw[i.mem_iff];have:=r z;have:=M z
     grind
    ·obtain⟨J,g,_,T⟩:=rM (ring':=ring') (s:=q) (p0:=q) C.nd (λz=>absurd z qr) (λy c u s=>⟨(G y u _ c s).1,λ_=>(S y u _ c).mpr (.inl ⟨c,s,by simp_all⟩)⟩) L B n
     rw[T λz=>qr (I q z)] at g
     refine⟨o,ew _ A,F,l,g,n,λz=>?_⟩
     have:=r z;have:=M z
     grind
 refine⟨D,h.l6,ww,row,λy c=>?_,?_⟩
 ·have up:∀k y,y∈reach rooms [w 0,w 1,w 2,w 3] ring k->y∈reach (q::rooms) [w 0,w 1,w 2,w 3] ring' k:=by
   intro k;induction k with
   | zero=>exact λy c=>c
   | succ k ih =>
    intro y c
    rcases ee.mp c with c | c
    ·exact ee.mpr (.inl c)
    ·obtain⟨g,i⟩:=ft.mp c;obtain⟨z,d,e⟩:=j3.mp i;exact ee.mpr (.inr (ft.mpr ⟨ew _ g,j3.mpr ⟨z,(p.mem C (ew _ g)).mpr (.inl ⟨g,d⟩),decide_eq_true (ih z (of_decide_eq_true e))⟩⟩))
  simp only[fk]
  rcases cR.mp c with rfl | c
  ·exact ee.mpr (.inr (ft.mpr ⟨eH,j3.mpr ⟨x,by rw[p.rq];exact eH,decide_eq_true (up _ x (h.all x p.hx))⟩⟩))
  ·exact Ai (C:=D) _ y (up _ y (h.all y c))
 ·have f4:=yF C h.l6 h.ww λk f=>by
   obtain⟨y,c,e,_⟩:=h.row k f;exact⟨y,c,e⟩
  have O7:=yF D h.l6 ww λk f=>by
   obtain⟨y,c,e,_⟩:=row k f;exact⟨y,c,e⟩
  have l1:=C.least O;have V:=D.least O;have d1:=C.half O;have d2:=D.half O;have eu:=h.wt;have t:=p.ties C;have s1:aw (λz=>(ring' z).countP (ah (q::rooms))) rooms=aw (λz=>(ring z).countP (ah rooms)) rooms + rooms.countP λz=>decide (z=x) || decide (z=a) || decide (z=b):=by
   simp only[cC λz d=>p.M2 C d,fU,rO]
  have s2:aw (λz=>(ring' z).countP λy=>!ah (q::rooms) y) rooms=aw (λz=>(ring z).countP λy=>!ah rooms y) rooms:=cC λz d=>p.JM C d
  have u1:(ring' q).countP (ah (q::rooms))=1 + (if a∈rooms then 1 else 0) + (if b∈rooms then 1 else 0):=by
   rw[p.rq]
   by_cases W:a∈rooms <;> by_cases m:b∈rooms <;> simp[hY,ah,p.hx,X.symm,Y.symm,Z.symm,W,m]
  have u2:((ring' q).countP λy=>!ah (q::rooms) y)=(if a∈rooms then 0 else 1) + (if b∈rooms then 0 else 1):=by
   rw[p.rq]
   by_cases W:a∈rooms <;> by_cases m:b∈rooms <;> simp[hY,ah,p.hx,X.symm,Y.symm,Z.symm,W,m]
  have ea:(if a∈rooms then 0 else 1) + (if a∈rooms then 1 else 0)=1:=by split <;> rfl
  have eb:(if b∈rooms then 0 else 1) + (if b∈rooms then 1 else 0)=1:=by split <;> rfl
  simp only[f4] at l1;rw[O7] at V;change 3 * _=((ring' q).countP (ah (q::rooms)) + aw (λz=>(ring' z).countP (ah (q::rooms))) rooms) + 2 * (((ring' q).countP λy=>!ah (q::rooms) y) + aw (λz=>(ring' z).countP λy=>!ah (q::rooms) y) rooms) + 4 at V
  change 2 * _=((ring' q).countP (ah (q::rooms)) + aw (λz=>(ring' z).countP (ah (q::rooms))) rooms) at d2
  show _=(((ring' q).countP λy=>!ah (q::rooms) y) + aw (λz=>(ring' z).countP λy=>!ah (q::rooms) y) rooms) + _ + 1
  simp only[s1,u1,s2,u2,t] at V;simp only[s1,u1,t] at d2;simp only[s2,u2,fk]
  lia
end
end Tl
end
section
namespace bW
open PySem PySem.Spec PyProof.Rows L2 DV
noncomputable def top (i:Nat):Stmt:=PySem.Challenge.pw_roomtouch_k51_shown.main.body.getD i (.Pass ⟨0,0,0,0⟩)
local macro_rules | `(tactic| walk_at "sc")=>`(tactic| exact⟨rfl,rfl,rfl,by decide +kernel,rfl,by decide +kernel,by decide +kernel⟩)
noncomputable abbrev vD:Stmt:=top 8
def zX:bD ["wall"] ["wall"] (aS vD):=by walk_at "sc"
noncomputable abbrev vo:Stmt:=top 9
def zg:bD ["thing"] ["thing"] (aS vo):=by walk_at "sc"
noncomputable abbrev wZ:Stmt:=top 10
def A3:bD ["thing"] ["thing"] (aS wZ):=by walk_at "sc"
noncomputable abbrev wY:Stmt:=top 11
def BX:bD ["room","ring","names"] ["room","ring","names"] (aS wY):=by walk_at "sc"
noncomputable abbrev uX:Stmt:=top 12
def zt:bD ["web","rooms","names"] ["web"] (aS uX):=by walk_at "sc"
noncomputable abbrev tP:Stmt:=top 13
def BI:bD ["rings","room","name"] ["rings"] (aS tP):=by walk_at "sc"
noncomputable abbrev tF:Stmt:=top 14
def BU:bD ["rings","corners","room","ring","name","behind"] ["rings"] (aS tF):=by walk_at "sc"
noncomputable abbrev vN:Stmt:=top 15
def x8:bD ["corner","corners","room","name","behind"] ["corner","corners"] (aS vN):=by walk_at "sc"
noncomputable abbrev tH:Stmt:=top 16
def CM:bD ["rings","corners"] ["rings"] (aS tH):=by walk_at "sc"
noncomputable abbrev wy:Stmt:=top 17
def A8:bD ["rings","wall","first","row","name","ring"] ["rings","wall","first"] (aS wy):=by walk_at "sc"
noncomputable abbrev vp:Stmt:=top 18
def Ac:bD ["rings","wall","corners","firsts","tied"] ["rings","wall"] (aS vp):=by walk_at "sc"
noncomputable abbrev xh:Stmt:=top 19
def CC:bD ["ring","names"] ["ring","names"] (aS xh):=by walk_at "sc"
noncomputable abbrev we:Stmt:=top 20
def xF:bD ["rings","reached","turn"] ["rings"] (aS we):=by walk_at "sc"
noncomputable abbrev uK:Stmt:=top 21
def yI:bD ["rings","ties","room","name"] ["rings"] (aS uK):=by walk_at "sc"
noncomputable abbrev vn:Stmt:=top 22
def xV:bD ["rings","threes","corner"] ["rings"] (aS vn):=by walk_at "sc"
noncomputable abbrev uY:Stmt:=top 23
def Ap:bD ["web","rings"] ["web"] (aS uY):=by walk_at "sc"
noncomputable abbrev uI:Stmt:=top 24
def yH:bD ["ring","at"] ["ring"] (aS uI):=by walk_at "sc"
noncomputable abbrev vI:Stmt:=top 25
def Aj:bD ["web"] ["web"] (aS vI):=by walk_at "sc"
noncomputable abbrev vM:Stmt:=top 27
def CF:bD ["web","lines","room","ring","names"] ["web"] (aS vM):=by walk_at "sc"
noncomputable abbrev vy:Stmt:=top 28
def CB:bD ["floor"] ["floor"] (aS vy):=by walk_at "sc"
noncomputable abbrev tf:Stmt:=top 30
def As:bD ["_law_cell","_law_number","_law_found","_law_k"] ["_law_cell"] (aS tf):=by walk_at "sc"
noncomputable abbrev ue:Stmt:=top 31
def B9:bD ["_law_purse_here","_law_many","_law_at","_law_found"] ["_law_purse_here","_law_many"] (aS ue):=by walk_at "sc"
noncomputable abbrev wa:Stmt:=top 32
def yQ:bD ["_law_purse_here","_law_letters","_law_first","_law_found","_law_k","_law_long","_law_tail","_law_name"] ["_law_purse_here"] (aS wa):=by walk_at "sc"
noncomputable abbrev uL:Stmt:=top 33
def Aq:bD ["_law_sides","_law_way","_law_at","_law_left","_law_bottom","_law_right","_law_top"] ["_law_sides","_law_way","_law_at"] (aS uL):=by walk_at "sc"
noncomputable abbrev tT:Stmt:=top 34
def x6:bD ["_law_sides","_law_purse_here","_law_left","_law_bottom","_law_right","_law_top","_law_x","_law_far","_law_y","_law_high","_law_amid"] ["_law_sides","_law_purse_here"] (aS tT):=by walk_at "sc"
noncomputable abbrev uP:Stmt:=top 35
def Cn:bD ["_law_purse_here","_law_most","_law_great","_law_rooms","_law_turn","_law_at","_law_left","_law_bottom","_law_right","_law_top","_law_way","_law_place"] ["_law_purse_here","_law_most"] (aS uP):=by walk_at "sc"
noncomputable abbrev sS:Stmt:=top 36
def CH:bD ["_law_purse_here","_law_most","_law_words","_law_found","_law_sides"] ["_law_purse_here","_law_most"] (aS sS):=by walk_at "sc"
noncomputable abbrev uV:Stmt:=top 37
def Cs:bD ["_law_one","_law_other","_law_low"] ["_law_one","_law_other","_law_low"] (aS uV):=by walk_at "sc"
noncomputable abbrev vB:Stmt:=top 38
def yV:bD ["_law_rows_here","_law_one","_law_way","_law_name","_law_left","_law_bottom","_law_right","_law_top","_law_some"] ["_law_rows_here","_law_one","_law_way"] (aS vB):=by walk_at "sc"
noncomputable abbrev sD:Stmt:=top 39
def zK:bD ["_law_rows_here","_law_one","_law_found","_law_way","_law_at"] ["_law_rows_here","_law_one"] (aS sD):=by walk_at "sc"
noncomputable abbrev uS:Stmt:=top 40
def C2:bD ["_law_rows_here"] ["_law_rows_here"] (aS uS):=by walk_at "sc"
noncomputable abbrev uM:Stmt:=top 41
def C8:bD ["_law_rows_here","_law_spots","_law_name","_law_left","_law_bottom","_law_right","_law_top"] ["_law_rows_here"] (aS uM):=by walk_at "sc"
noncomputable abbrev xk:Stmt:=top 44
def Bi:bD ["_law_names_here","_law_one","_law_other","_law_name","_law_at"] ["_law_names_here","_law_one","_law_other","_law_name"] (aS xk):=by walk_at "sc"
noncomputable abbrev uk:Stmt:=top 45
def zw:bD ["_law_web_here","_law_name","_law_purse_here","_law_room","_law_ring_here","_law_at","_law_a","_law_b","_law_found","_law_other","_law_names_here"] ["_law_web_here","_law_name","_law_purse_here"] (aS uk):=by walk_at "sc"
noncomputable abbrev tR:Stmt:=top 46
def yT:bD ["_law_purse_here","_law_rows_here","_law_web_here","_law_used","_law_name","_law_found","_law_room","_law_ring_here","_law_at"] ["_law_purse_here"] (aS tR):=by walk_at "sc"
noncomputable abbrev uF:Stmt:=top 47
def BS:bD ["_law_names_here","_law_at"] ["_law_names_here"] (aS uF):=by walk_at "sc"
noncomputable abbrev wj:Stmt:=top 48
def C5:bD ["_law_web_here"] ["_law_web_here"] (aS wj):=by walk_at "sc"
noncomputable abbrev ux:Stmt:=top 49
def xA:bD ["_law_rows_here"] ["_law_rows_here"] (aS ux):=by walk_at "sc"
noncomputable abbrev sI:Stmt:=top 50
def Bp:bD ["_law_script","_law_cell","_law_purse_here","_law_web_here","_law_handed","_law_found","_law_rows_here"] ["_law_script"] (aS sI):=by walk_at "sc"
structure Txt (mg:eT->Option b8):Prop where
 len:mg "len"=none
 int:mg "int"=none
 OY:mg "isinstance"=none
 ou:mg "range"=none
 min:mg "min"=none
 max:mg "max"=none
 all:mg "all"=none
 dict:mg "dict"=none
 sorted:mg "sorted"=none
 tuple:mg "tuple"=none
 list:mg "list"=none
 str:mg "str"=none
 bool:mg "bool"=none
end bW
end
section
namespace L2
open PySem PySem.Spec PyProof.Rows
section
variable {X:Cx}
theorem MH (bs:List Bool):((lp bs.length).any λi=>(bs[i]?).getD false)=bs.any id:=by
 induction bs with
 | nil=>rfl
 | cons b r a =>
  rw[fk,Wt,I9,Ww,I9,<- a];rfl
def Kb (g:X.calm=true):bO X (.builtin "any") (λxs H Q=>∃(p:cW) (bs:List Bool),xs=[.ref p]/\Rd H p (.lst (bs.map V.bl))/\Q (.bl (bs.any id)) H):=by
 intro pins s σ H xs us Q I r h;obtain⟨p,bs,rfl,j,q⟩:=h;obtain⟨u,rfl,k⟩:=r.one;cases k;obtain⟨z,its,n,l,e⟩:=j.ok I.ai;have c:=uQ l;subst c;have d:s.heap.IsList p (bs.map r4).toArray:=⟨_,e,rfl,n,rfl⟩;have m:p < s.heap.objs.size:=fj e;refine call_any_walk (To d ⟨s.heap.objs.size,[s.heap.objs.size,p],[s.heap.objs.size],(bs.map r4).toArray.size,_,_,λi=>(bs[i]?).getD false,rfl,
  Walks.list (A:=X.A.in1) (I.ok.hd g) _ p (gW m) (bs.map r4).toArray,⟨⟨_,hB _ rfl,rfl,rfl⟩,d.push _⟩,λi v s' Q' E' a f=>?_,λh' tk o=>?_⟩)
 ·have a:(bs.map r4)[i]? = some v:=by simpa using a
  rw[cn] at a;cases c:bs[i]? with
  | none=>rw[c] at a;cases a
  | some b =>
   rw[c] at a;cases a;simp only[c,Ux] at f;exact y0 f
 ·have t:(lp (bs.map r4).toArray.size).any (λi=>(bs[i]?).getD false)=bs.any id:=by
   rw[e7,a8];exact MH bs
  rw[t];refine⟨.bl _,H,?_,rfl,q⟩;exact I.kept (t':=tk) λb x ex=>o b x (λw=>by rw[iR.mp w] at ex;exact qp _ (fj ex)) (el _ ex)
theorem ints_get:∀{a:List Int}{its:List b8}{i:Nat}{v:b8},aC (a.map V.int) its->its[i]? = some v->∃t,v=.int ((a[i]?).getD 0) t
 | [],_,i,v,h,e=>by cases h;simp at e
 | n::a,_,0,v,h,e=>by
  cases h with
  | cons r t =>
   obtain⟨tk,rfl⟩:=r;simp at e;exact⟨tk,e.symm⟩
 | n::a,_,i + 1,v,h,e=>by
  cases h with
  | cons r t =>
   have:=ints_get (i:=i) (v:=v) t (by simpa using e)
   simpa using this
theorem qX:∀{a:List eT}{its:List b8}{i:Nat}{v:b8},aC (a.map V.str) its->its[i]? = some v->∃t,v=.str ((a[i]?).getD n4) t
 | [],_,i,v,h,e=>by cases h;simp at e
 | n::a,_,0,v,h,e=>by
  cases h with
  | cons r t =>
   obtain⟨tk,rfl⟩:=r;simp at e;exact⟨tk,e.symm⟩
 | n::a,_,i + 1,v,h,e=>by
  cases h with
  | cons r t =>
   have:=qX (i:=i) (v:=v) t (by simpa using e)
   simpa using this
noncomputable def mn (a:List Int):Int:=(a[Yu (λi j=>decide ((a[i]?).getD 0 > (a[j]?).getD 0)) (a.length - 1)]?).getD 0
noncomputable def eA (a:List eT):Str:=(a[Yu (λi j=>decide (((a[i]?).getD n4).cps.toList < ((a[j]?).getD n4).cps.toList)) (a.length - 1)]?).getD n4
def Jy {its:List b8}{s:cA}{p:cW}(c:p < s.heap.objs.size) {o:tm}:∀b∈[s.heap.objs.size,p],b < (s.heap.push o).objs.size:=λb a=>by
 rw[Ug];simp only[cR,fm,or_false] at a
 rcases a with rfl | rfl
 ·exact UK _
 ·exact Uy c
def Fc (val:Nat->eT)(a:∀i v,R i v->∃t,v=.str (val i) t):CmpOf P w A .Lt R (λi j=>decide ((val i).cps.toList < (val j).cps.toList)):=λi j b c s Q E d e h=>by
 obtain⟨t,rfl⟩:=a i b d;obtain⟨u,rfl⟩:=a j c e;exact lt_str h
def Hh (l:X.calm=true):bO X (.builtin "min") (λxs H Q=>∃(p:cW) (a:List eT),xs=[.ref p]/\Rd H p (.lst (a.map V.str))/\a≠[]/\Q (.str (eA a)) H):=by
 intro pins s σ H xs us Q I r h;obtain⟨p,a,rfl,m,f,q⟩:=h;obtain⟨u,rfl,o⟩:=r.one;cases o;obtain⟨z,its,n,d,e⟩:=m.ok I.ai;have g:s.heap.IsList p its.toArray:=⟨_,e,rfl,n,rfl⟩;have j:p < s.heap.objs.size:=fj e;have k:its.length=a.length:=by have:=d.length;simpa using this.symm
 have h0:0 < a.length:=ka.mpr f;refine call_min_walk (To g ⟨s.heap.objs.size,[s.heap.objs.size,p],[s.heap.objs.size],its.toArray.size,_,_,_,rfl,
  Walks.list (A:=X.A.in1) (I.ok.hd l) _ p (gW j) its.toArray,⟨⟨_,hB _ rfl,rfl,rfl⟩,g.push _⟩,Jy (its:=its) j,by rw[e7];lia,Fc (λi=>(a[i]?).getD n4) (λi v c=>qX d (by simpa using c)),λv h' tk c w=>?_⟩)
 rw[List.getElem?_toArray] at c;obtain⟨t,rfl⟩:=qX d c;refine⟨.str (eA a),H,?_,⟨t,?_⟩,q⟩
 ·exact I.kept (t':=tk) λb x ex=>w b x (λy=>by rw[iR.mp y] at ex;exact qp _ (fj ex)) (el _ ex)
 ·rw[e7,k];rfl
end
end L2
end
section
namespace DV
open PySem PySem.Spec PyProof.Rows L2
section
variable {X:Cx}{pos:qe}{e:gs}
noncomputable def pS:List Dat->Option Res
 | [.lst ds]=>(gh ds).map λbs=>.dat (.bl (bs.any id))
 | _=>none
def Lz:CD X (λxs H Q=>∃(p:cW) (bs:List Bool),xs=[.ref p]/\Rd H p (.lst (bs.map V.bl))/\Q (.bl (bs.any id)) H) pS:=by
 intro H0 ps Z σ H f vs ds o Q e S r k;unfold pS at e;split at e
 ·rename_i c;cases b:gh c with
  | none=>rw[b] at e;cases e
  | some bs =>
   rw[b] at e;cases e;obtain⟨v,vr,rfl,⟨a,ws,rfl,d,rs⟩,g⟩:=r;cases g;rw[wo b rs] at d;exact⟨a,bs,rfl,Rd.mono S.sub d,k _ H f S (af.refl _) rfl⟩
 ·cases e
noncomputable def lJ:List Dat->Option Res
 | [.lst ds]=>(cH ds).bind λa=>if a=[] then none else some (.dat (.str (eA a)))
 | _=>none
def JR:CD X (λxs H Q=>∃(p:cW) (b:List eT),xs=[.ref p]/\Rd H p (.lst (b.map V.str))/\b≠[]/\Q (.str (eA b)) H) lJ:=by
 intro H0 ps Z σ H h vs ds o Q e S r k;unfold lJ at e;split at e
 ·rename_i d;cases c:cH d with
  | none=>rw[c] at e;cases e
  | some b =>
   rw[c] at e;have e:(if b=[] then none else some (Res.dat (.str (eA b))))=some o:=e
   split at e
   ·cases e
   ·rename_i f;cases e;obtain⟨v,vr,rfl,⟨a,ws,rfl,g,rs⟩,i⟩:=r;cases i;rw[jP c rs] at g;exact⟨a,b,rfl,Rd.mono S.sub g,f,k _ H h S (af.refl _) rfl⟩
 ·cases e
def LK (a:X.calm=true)(b:Gl X "any")(c:X.mg "any"=none)(d:bK X e [])(f:DA X [e] fa):DE X (.Call (.Name "any" p) [e] [] pos) (cJ pS fa):=kr (Kb a) Lz b c (by decide +kernel) f (by decide) (by decide) d rfl
def MI (a:X.calm=true)(b:Gl X "min")(c:X.mg "min"=none)(d:bK X e [])(f:DA X [e] fa):DE X (.Call (.Name "min" p) [e] [] pos) (cJ lJ fa):=kr (Hh a) JR b c (by decide +kernel) f (by decide) (by decide) d rfl
end
end DV
end
section
namespace L2
open PySem PySem.Spec PyProof.Rows
noncomputable def ltI (fs:List Int) (i j:Nat):Bool:=decide (fs.getD i 0 < fs.getD j 0)
def De (nd:fs.Nodup):dB.Ord (ltI fs) fs.length where
 trans:=λi j k c a=>decide_eq_true (WN (of_decide_eq_true c) (of_decide_eq_true a))
 total:=λi j d f b=>by
  unfold ltI;rw[fq d,fq f]
  by_cases h:fs[i] < fs[j]
  ·exact .inl (decide_eq_true h)
  ·refine .inr (decide_eq_true ?_)
   by_cases a:fs[j] < fs[i]
   ·exact a
   ·have e:fs[i]=fs[j]:=by lia
    exact absurd ((zb nd).mp e) b
 eG:=λi=>decide_eq_false (Int.lt_irrefl _)
noncomputable def mJ (K:gj) (H:Hp) (vs:List V) (fs:List Int):Prop:=vs.length=fs.length/\∀(i:Nat) (f:Int),fs[i]? = some f->∃a b,vs[i]? = some (.ref a)/\bb K H a b/\b[0]? = some (.int f)
noncomputable def xu (fs:List Int) (vs out:List V):Prop:=∃q:Array Nat,dB.cS q vs.length/\dB.Up (ltI fs) q vs.length/\out=q.toList.map λi=>vs.getD i .aK
noncomputable def Cq (K:gj):List V->Hp->VK->Prop:=λxs H Q=>∃p vs fs,xs=[.ref p]/\Rd H p (.lst vs)/\mJ K H vs fs/\fs.Nodup/\vs.length < 64/\∀out,xu fs vs out->∀l,H l=none->Q (.ref l) (upd H l (.lst out))
theorem xO (I:Inv X j q H s):∀{fs:List Int}{vs:List V}{its:List b8},mJ X.K H vs fs->aC vs its ->
  ∃c:List b8,WO s.heap its c/\c.length=fs.length/\(∀v∈c,∃x t,v=UE x t)/\∀(i:Nat) (f:Int),fs[i]? = some f->∃a o xs n t,its[i]? = some (.ref a)/\s.heap.get? a=some o/\o.data=.seq xs n/\xs[0]? = some (UE f t)
 | [],[],_,h,r=>by
  cases r;exact⟨[],.nil,rfl,λv k=>by simp at k,λi f e=>by simp at e⟩
 | [],_::_,_,h,_=>by simp[mJ] at h
 | _::_,[],_,h,_=>by simp[mJ] at h
 | f::fs,v::vs,_,h,r=>by
  cases r with
  | cons w rs =>
   obtain⟨a,ws,y,A,B⟩:=h.2 0 f rfl;cases y;cases w;have h':mJ X.K H vs fs:=⟨by simpa using h.1,λi g e=>by
    obtain⟨b,C,l,m,D⟩:=h.2 (i + 1) g (by simpa using e)
    exact⟨b,C,by simpa using l,m,D⟩⟩
   obtain⟨c,E,F,G,J⟩:=xO I h' rs;obtain⟨its,L,⟨o,p,M,n,hd⟩,_⟩:=I.tuple A;obtain⟨u,N,O⟩:=L.get B;obtain⟨t,rfl⟩:=O;have d:its.toArray[0]? = some (UE f t):=by simpa using N
   refine⟨UE f t::c,.cons p M hd d E,by simp[F],λv k=>?_,λi g e=>?_⟩
   ·rcases cR.mp k with z | z
    ·exact⟨f,t,z⟩
    ·exact G v z
   ·cases i with
    | zero =>
     simp at e;subst e;exact⟨a,o,_,n,t,rfl,p,hd,d⟩
    | succ i =>
     obtain⟨b,P,xs,Q,t',l,m⟩:=J i g (by simpa using e)
     exact⟨b,P,xs,Q,t',by simpa using l,m⟩
section
variable {X:Cx}
def M5 (O':X.ex=[]):bO X (.builtin "sorted") (Cq X.K):=by
 intro pins s σ H xs us Q I r h;obtain⟨p,vs,fs,rfl,rd,l,nd,h64,q⟩:=h;obtain⟨u,rfl,ru⟩:=r.one;cases ru;obtain⟨z,its,n,F,e⟩:=rd.ok I.ai;have d:=F.length;have hL:s.heap.IsList p its.toArray:=⟨_,e,rfl,n,rfl⟩;obtain⟨m,hn,hl⟩:=I.loc;have Pd:=hn;obtain⟨oL,Pe,Pf,k,U,_⟩:=Pd;have w:∀b∈X.ex,∃o,s.heap.get? b=some o:=λb hb=>by rw[O'] at hb;simp at hb
 by_cases h2:2<=its.length
 ·obtain⟨fv,kt,kl,ks,V⟩:=xO I l F;have Fl:=I.wM hn;have Nl:News (eU s.heap X.env.locals) X.env.locals s.heap (kE (eU s.heap X.env.locals) s.heap X.env.locals):=uZ;refine Za Fl Nl hL h2 (by omega) λD e1 h' F' N' Y=>?_
  have kp:∀b o,b≠X.env.locals->s.heap.get? b=some o->h'.get? b=some o:=oN F' N' λq hq=>ew _ hq
  have A:∀b o xs n,o.data=.seq xs n->s.heap.get? b=some o->h'.get? b=some o:=λb o xs n hd ho=>kp b o (λz=>by rw[z,k] at ho;cases ho;rw[U] at hd;cases hd) ho
  have Pk:=KatTups.keeps A kt;refine W.kat_kind (T:=.type "int") Pk (by simp only[kl,<- l.1,d];omega) (λv hv=>?_) (by decide) ?_
  ·obtain⟨x,t,rfl⟩:=ks v hv;exact Xe rfl
  ·have O:=De nd;have Pl:its.length=fs.length:=by rw[<- d];exact l.1
   obtain⟨G,cq,pq,uq⟩:=dB.AM O (by lia)
   simp only[Pl];refine cq.wp (λi j ok C hC=>?_) ?_
   ·obtain⟨hi,hj,Z⟩:=ok;obtain⟨a,o,xs,n1,t1,J,a2,a3,L⟩:=V i _ (cm hi);obtain⟨b,o',ys,n2,t2,b1,b2,b3,M⟩:=V j _ (cm hj);have ea:its.getD i n6=.ref a:=by rw[n7,J];rfl
    have eb:its.getD j n6=.ref b:=by rw[n7,b1];rfl
    show hE _ _ (keyLt' _ (its.getD i n6) (its.getD j n6)) C _ _;rw[ea,eb];refine W.kat_lt (A _ _ _ _ a3 a2) a3 (A _ _ _ _ b3 b2) b3 ?_;obtain⟨N,P,ex⟩:∃N P,xs.toList=N::P:=by
     cases hx:xs.toList with
     | nil =>
      rw[<- k7,hx] at L;cases L
     | cons N P=>exact⟨N,P,rfl⟩
    obtain⟨R,S,ey⟩:∃R S,ys.toList=R::S:=by
     cases hy:ys.toList with
     | nil =>
      rw[<- k7,hy] at M;cases M
     | cons R S=>exact⟨R,S,rfl⟩
    rw[<- k7,ex] at L;rw[<- k7,ey] at M;cases L;cases M;simp only[ex,ey,Vp];have Pq:fs[i]≠fs[j]:=λz=>Z ((zb nd).mp z)
    refine W.kat_cons (YG ?_);simp only[beq_eq_false_iff_ne.mpr Pq];refine W.kat_no (oneLt_int ?_);have:ltI fs i j=decide (fs[i] < fs[j]):=by unfold ltI;rw[fq hi,fq hj]
    simp only[<- this];exact hC
   ·have f:s.heap.get? D=none:=by
     cases y:s.heap.get? D with
     | none=>rfl
     | some o =>
      have J:=N' (D,z8 "list" #[] e1) eH;exact absurd (Y _ (rl J.2.1 J.2.2 y)) (qp _)
    refine Xf F' N' (.head λp hp=>gW (Y p hp)) λbe c yq O4=>?_
    have B:∀b o,b≠X.env.locals->s.heap.get? b=some o->be.get? b=some o:=oN yq O4 λq hq=>ew _ hq
    have hD:be.get? D=some (W.listOf (TH (G.toList.map λi=>its.getD i n6)) c):=(O4 _ eH).1
    have E:dB.cS G vs.length:=by rw[l.1];exact pq
    refine⟨.ref D,upd H D (.lst (G.toList.map λi=>vs.getD i .aK)),I.nZ (tk:=s.toks) hl yq.ns B f w ?_,rfl,q _ ⟨G,E,by rw[l.1];exact uq,rfl⟩ D (I.ai.dead f)⟩
    refine⟨?_,_,c,sR F _ (pV E),hD⟩;simp only[a8,m5,E.size];exact z
 ·refine Tp XX Xy XA (XB _) ?_;unfold T6.«sorted»
  refine bt (m:=Yc "sorted" 1 1 _) (eR (bt (collect_list hL (bt (VJ ?_ (by rw[qo];omega))) (by rw[qo];omega))))
  generalize hg:((s.heap.push (z8 "list" #[] 0)).update s.heap.objs.size (Tx (· ++ its.toArray)))=g;have Pu:g.objs.size=s.heap.objs.size + 1:=by simp only[<- hg,UG,Yk]
  have gk:∀b o,s.heap.get? b=some o->(g.push (z8 "list" its.toArray 0)).get? b=some o:=λb o q=>by
   have lt:=fj q;refine el _ ?_;rw[<- hg,sW _ _ (US lt)];exact el _ q
  have gD:(g.push (z8 "list" its.toArray 0)).get? g.objs.size=some (z8 "list" its.toArray 0):=hB _ rfl;refine bt (nL (ql Vt ⟨_,gD,rfl⟩ Vj (BE (s:={ s with heap:=g.push (z8 "list" its.toArray 0) }) gD (by lia) λh' c hD kp=>⟨_,rfl,eR ⟨_,rfl,?_⟩⟩) (Vv _)))
  have f:s.heap.get? g.objs.size=none:=by
   cases y:s.heap.get? g.objs.size with
   | none=>rfl
   | some o =>
    have:=fj y;rw[Pu] at this;exact absurd this (Zk.mpr (Uz _))
  have B:∀b o,b≠X.env.locals->s.heap.get? b=some o->h'.get? b=some o:=λb o _ q=>kp b o (λz=>by simp only[z,f] at q;cases q) (gk b o q)
  have Py:h'.Ns X.env.locals m:=⟨oL,Pe,Pf,kp _ _ (λz=>by simp only[z,f] at k;cases k) (gk _ _ k),U,by assumption⟩
  have one:xu fs vs vs:=by
   refine⟨(lp vs.length).toArray,dB.wO,λi j Z hj=>by lia,?_⟩
   match vs,d with
   | [],_=>rfl
   | [v],_=>rfl
   | _::_::_,d=>exact absurd h2 (by simp at d;lia)
  refine⟨.ref g.objs.size,upd H g.objs.size (.lst vs),I.nZ (tk:=s.toks) hl Py B f w ⟨z,its,c,F,hD⟩,rfl,q vs one _ (I.ai.dead f)⟩
end
end L2
namespace DV
open PySem PySem.Spec PyProof.Rows L2
noncomputable def kc:Dat->Option Int
 | .tup (.int x::_)=>some x
 | _=>none
noncomputable def firstsI:List Dat->Option (List Int)
 | []=>some []
 | d::r=>(kc d).bind λx=>(firstsI r).map (x::·)
noncomputable def gK (d:Dat):Int:=(kc d).getD 0
noncomputable def eM (a b:Dat):Bool:=decide (gK a<=gK b)
noncomputable def qW (ds:List Dat):List Dat:=ds.mergeSort eM
theorem zm:∀{ds:List Dat}{fs:List Int},firstsI ds=some fs->fs=ds.map gK/\∀d∈ds,∃x,kc d=some x
 | [],_,e=>by cases e;exact⟨rfl,λd h=>by simp at h⟩
 | d::r,_,e=>by
  have e:(kc d).bind (λx=>(firstsI r).map (x::·))=some _:=e
  cases a:kc d with
  | none=>rw[a] at e;cases e
  | some x =>
   rw[a] at e;simp only[a5] at e;cases b:firstsI r with
   | none=>rw[b] at e;cases e
   | some ys =>
    rw[b] at e;cases e;obtain⟨c,f⟩:=zm b;refine⟨by simp[gK,a,c],λd' hd=>?_⟩
    rcases cR.mp hd with z | z
    ·exact⟨x,by simp only[z,a]⟩
    ·exact f d' z
theorem zA {K:gj}{H j:Hp}(s:af j H):∀{ds:List Dat}{vs:List V}{fs:List Int},firstsI ds=some fs->ay K j ds vs->mJ K H vs fs
 | [],_,_,e,r=>by
  cases e;rw[show _=[] from r]
  exact⟨rfl,λi f e=>by simp at e⟩
 | d::ds,_,_,e,⟨v,vr,l,m,rs⟩=>by
  have e:(kc d).bind (λx=>(firstsI ds).map (x::·))=some _:=e
  cases b:kc d with
  | none=>rw[b] at e;cases e
  | some x =>
   rw[b] at e;simp only[a5] at e;cases c:firstsI ds with
   | none=>rw[c] at e;cases e
   | some ys =>
    rw[c] at e;cases e;obtain⟨n,o⟩:=zA s c rs;simp only[l];refine⟨by simp[n],λi f g=>?_⟩
    cases i with
    | zero =>
     simp at g;subst g;unfold kc at b;split at b
     ·cases b;obtain⟨p,h,rfl,q,w1,wr,t,k,_⟩:=m;cases k;exact⟨p,h,rfl,bb.mono s q,by rw[t];rfl⟩
     ·cases b
    | succ i =>
     obtain⟨a,h,u,w⟩:=o i f (by simpa using g)
     exact⟨a,h,by simpa using u,w⟩
def Nt (a b c) (h1:eM a b=true) (h2:eM b c=true):eM a c=true:=by
 unfold eM at *;simp only[decide_eq_true_eq] at *
 lia
def Mv (a b):(eM a b || eM b a)=true:=by
 unfold eM;simp only[VX,decide_eq_true_eq]
 lia
def Iv (nd:(ds.map gK).Nodup)(P:dB.cS q ds.length)(U:dB.Up (ltI (ds.map gK)) q ds.length):(q.toList.map λi=>ds.getD i .aK)=qW ds:=by
 have pm:(q.toList.map λi=>ds.getD i .aK).Perm ds:=by
  have:=P.pm.map (λi=>ds.getD i .aK)
  rw[xW] at this;exact this
 have m:∀i,i < ds.length->gK (ds.getD i .aK)=(ds.map gK).getD i 0:=λi c=>by
  rw[fq c,fq (by simpa using c)]
  simp
 have g:(q.toList.map λi=>ds.getD i .aK).Pairwise (λa b=>eM a b=true/\a∈ds/\b∈ds):=by
  rw[lb];intro i j c d n;have o:i < ds.length:=by rw[<- P.size];simpa using c
  have f:j < ds.length:=by rw[<- P.size];simpa using d
  refine⟨?_,pm.mem_iff.mp (Tq _),pm.mem_iff.mp (Tq _)⟩;have u:=U i j n f;have t:q.toList[i]'(by simpa using c)=q.getD i 0:=by
   simp only[lq,j' (by simpa using c)]
   simp
  have v:q.toList[j]'(by simpa using d)=q.getD j 0:=by
   simp only[lq,j' (by simpa using d)]
   simp
  simp only[TZ,TZ,t,v];unfold eM;simp only[m _ (P.lt i o),m _ (P.lt j f)];unfold ltI at u;have u:=of_decide_eq_true u;exact decide_eq_true (Int.le_of_lt u)
 have k:(qW ds).Pairwise (λa b=>eM a b=true/\a∈ds/\b∈ds):=by
  have h:=Tz (le:=eM) Nt Mv ds;refine Rr (λw x p=>⟨p,?_,?_⟩) h
  ·exact (gp ds eM).mem_iff.mp w
  ·exact (gp ds eM).mem_iff.mp x
 refine rR (R:=λa b:Dat=>eM a b=true/\a∈ds/\b∈ds) (λa b l y=>?_) (pm.trans (gp ds eM).symm) g k
 have e:gK a=gK b:=Int.le_antisymm (of_decide_eq_true l.1) (of_decide_eq_true y.1);obtain⟨i,c,r⟩:=nk l.2.1;obtain⟨j,d,s⟩:=nk l.2.2;have z:(ds.map gK)[i]'(by simpa using c)=(ds.map gK)[j]'(by simpa using d):=by simp[r,s,e]
 have A:=(zb nd).mp z;subst A;simp only[<- r,s]
noncomputable def nV:List Dat->Option Res
 | [.lst ds]=>(firstsI ds).bind λfs=>if fs.Nodup/\ds.length < 64 then some (.own (.lst (qW ds))) else none
 | _=>none
section
variable {X:Cx}{pos:qe}{e:gs}
def NS:CD X (λxs H Q=>Cq X.K xs H Q) nV:=by
 intro H0 ps Z σ H m vs ds o Q a S r k;unfold nV at a;split at a
 ·rename_i g;cases d:firstsI g with
  | none=>rw[d] at a;cases a
  | some fs =>
   rw[d] at a;simp only[a5] at a;split at a
   ·rename_i f;cases a;obtain⟨v,vr,rfl,⟨p,n,rfl,s,rs⟩,t⟩:=r;cases t;have b:=rs.length;refine⟨p,n,fs,rfl,Rd.mono S.sub s,zA S.sub d rs,f.1,by rw[b];exact f.2,λout ⟨q,P,U,u⟩ l c=>?_⟩
    obtain⟨h,_⟩:=zm d;subst h;simp only[b] at P U;have w:=Iv f.1 P U;subst u;have j:=ay.pick rs q.toList (λi x=>by rw[b];exact pV P i x)
    rw[w] at j;exact k (.ref l) _ m (S.made c) (af.refl _) ⟨l,rfl,⟨_,bu,j,S.dy c⟩,(S.bM c).2,(S.bM c).1,S.d6 c⟩
   ·cases a
 ·cases a
def ER (a:X.ex=[])(b:Gl X "sorted")(c:X.mg "sorted"=none)(d:bK X e [])(f:DA X [e] fa):DE X (.Call (.Name "sorted" p) [e] [] pos) (cJ nV fa) :=
 kr (M5 a) NS b c (by decide +kernel) f (by decide) (by decide) d rfl
end
noncomputable def jK (d:Dat) (ds:List Dat):Nat:=(bY ds).countP λy=>ua y (toPy d)
noncomputable def xY (K:gj):V->List V->Hp->VK->Prop:=λx vs H Q=>∃a ds d y p b,x=.ref p/\vs=[y]/\af a H/\Rd H p (.lst b)/\ay K a ds b/\Rep K a d y/\bB (.lst ds)=true/\bB d=true/\Q (.int (jK d ds:Nat)) H
section
variable {X:Cx}
def Jg (i:X.A.units + 65 < vi):oy X "list.count" (xY X.K):=by
 intro pins s σ H x vs v us Q I rx j h;obtain⟨Hi,ds,d,y,p,ws,rfl,rfl,sm,k,rs,l,b,a,q⟩:=h;cases rx;obtain⟨u,rfl,m⟩:=j.one;obtain⟨z,its,n,c,e⟩:=k.ok I.ai;have b:=hG.mp b;have a:=hG.mp a;obtain⟨as,f⟩:=oO I sm (show gY ds=true from b.1) rs c
 obtain⟨bs,o⟩:=hZ I sm a.1 l m;have g:Um (bY ds)=true:=Wq b.2;have r:(toPy d).canLay0=true:=Wq a.2;have t:=SeqAt.readsAll_map _ _ _ g f;have B:its.toArray.toList.countP (λw=>ua (Yg s.heap w) (toPy d))=jK d ds:=by
  unfold jK;simp only[<- t,ll];rfl
 refine Vf WR ⟨_,e,rfl⟩ F.entry_list_count (F.args_list_count_2 _ _)
  (SeqAt.list_countAt p its.toArray n none #[] u (λw=>ua (Yg s.heap w) (toPy d))) ⟨e,SeqAt.items_eqAt (by simpa using f) o g r (room_in_shaped a.2 i),?_⟩
 rw[B];exact⟨.int (jK d ds:Nat),H,I.tok _,⟨_,rfl⟩,q⟩
noncomputable def pw (f:DF) (fa:AF):DF:=λZ=>(f Z).bind λp=>(fa p.2).bind λq=>match p.1,q.1 with
 | .lst ds,[d]=>if bB (.lst ds) && bB d then some (.int (jK d ds:Nat),q.2) else none
 | _,_=>none
theorem LX (C:DD X o f)(D:DA X [e] fa)(E:∀{to:TE}{t:TA},PE X o to->PA X [e] t->PE X (.Call (.Attribute o "count" g) [e] [] pos) (pC X.K "list" (xY X.K) to t)):DD X (.Call (.Attribute o "count" g) [e] [] pos) (pw f fa):=by
 obtain⟨to,F,G⟩:=C;obtain⟨t,p,q⟩:=D;refine⟨_,E F p,λr s Z u H I d Z' Q b S k=>?_⟩
 unfold pw at b;cases j:f Z with
 | none=>rw[j] at b;cases b
 | some dp =>
  obtain⟨c,Z1⟩:=dp;rw[j] at b;simp only[a5] at b;cases l:fa Z1 with
  | none=>rw[l] at b;cases b
  | some ap =>
   obtain⟨as,Z2⟩:=ap;rw[l] at b;dsimp only[a5] at b;split at b
   ·rename_i ds x;split at b
    ·rename_i h;have h:=hG.mp h;cases b;refine G r s Z u H I _ Z1 _ j S λv J w z L M=>?_
     obtain⟨a,A,rfl,B,rs⟩:=M;refine⟨.inl ⟨rfl,A,.inl (Rd.mono z.sub B)⟩,q r s Z1 u J w _ _ _ l z λvs N i m n O=>?_⟩
     obtain⟨y,yr,rfl,P,R⟩:=O;cases R;exact⟨i,ds,x,y,a,A,rfl,rfl,m.sub,Rd.mono m.sub (Rd.mono n B),ay.mono n rs,P,h.1,h.2,k _ N i m (L.trans n) rfl⟩
    ·cases b
   ·cases b
def N9 (g:X.A.units + 65 < vi)(b:TF o "count" X.env (eval o X.env)=eval o X.env)(d:mZ X pos e)(c:(a.endLine == pos.line)=true)(h:bK X e [])(i:DD X o f)(j:DA X [e] fa):DD X (.Call (.Attribute o "count" a) [e] [] pos) (pw f fa) :=
 LX i j (λk l=>mW Tu WR PySem.F.type_list_count (Jg g) k l b d c h rfl)
def MS (g:X.A.units + 65 < vi)(b:TF o "index" X.env (eval o X.env)=eval o X.env)(d:mZ X pos e)(c:(a.endLine == pos.line)=true)(h:bK X e [])(i:DD X o f)(j:DA X [e] fa):DD X (.Call (.Attribute o "index" a) [e] [] pos) (oA f fa) :=
 Dl i j (λk l=>mW Tu PySem.F.slot_list_index PySem.F.type_list_index (MG g) k l b d c h rfl)
noncomputable def zV:V->List V->Hp->VK->Prop:=λx vs H Q=>∃(l:cW) (xs:List V) (y:V) (i:Nat),x=.ref l/\vs=[.int (i:Int),y]/\H l=some (.lst xs)/\i<=xs.length/\xs.length < bg/\Q .aK (upd H l (.lst (xs.take i++y::xs.drop i)))
theorem zQ:∀{vs:List V}{a:List b8},aC vs a->∀i,aC (vs.take i) (a.take i)
 | _,_,_,0=>.nil
 | _,_,.nil,_ + 1=>.nil
 | _,_,.cons r t,i + 1=>.cons r (zQ t i)
theorem C1:∀{vs:List V}{a:List b8},aC vs a->∀i,aC (vs.drop i) (a.drop i)
 | _,_,h,0=>h
 | _,_,.nil,_ + 1=>.nil
 | _,_,.cons _ t,i + 1=>C1 t i
theorem Jc:Cp X "list.insert" zV:=by
 intro pins s σ H x vs v us Q I rx g h;obtain⟨l,xs,y,i,rfl,rfl,d,j,hz,q⟩:=h;cases rx;cases g with
 | cons k rs =>
  cases rs with
  | cons m o =>
   cases o;rename_i u;obtain⟨t,rfl⟩:=k;obtain⟨z,its,n,r,hl,e⟩:=I.Cj d;have c:its.length=xs.length:=r.length.symm;have b:¬(!Builtin.List.listFitsIndex (i:Int))=true:=by
    have:=jt;unfold Vn;simp only[nq,Bool.and_eq_false_iff,decide_eq_false_iff_not,not_or,Classical.not_not];constructor <;> lia
   have hsz:its.toArray.size<=sizeLine:=by rw[e7];lia
   obtain⟨a,f⟩:∃a:Int,a=(i:Int):=⟨_,rfl⟩;rw[<- f] at b ⊢;have p:=AutoSeq1.list_insert_list_int_val_1 l its.toArray n a t u b hsz;refine Vf WH ⟨_,e,rfl⟩ F.entry_list_insert (F.args_list_insert_3 _ _ _) p ⟨e,?_⟩;refine⟨.aK,_,I.yU (its':=its.take i++u::its.drop i) d e ?_ ((zQ r i).append (.cons m (C1 r i))) ?_,rfl,q⟩
   ·have w:(if a < 0 then (a + (its.toArray.size:Int)).toNat else min a.toNat its.toArray.size)=i:=by
     rw[if_neg (by lia),e7]
     lia
    dsimp only;rw[w];apply Array.ext';simp[c,j];rw[TJ (by rw[j1];lia)]
   ·simp only[eJ,fk,gg,j1]
    lia
noncomputable def qE:Dat->List Dat->Option (Dat×Dat)
 | .lst xs,[.int i,d]=>if 0<=i/\i<=xs.length/\xs.length < bg then some (.aK,.lst (xs.take i.toNat++d::xs.drop i.toNat)) else none
 | _,_=>none
theorem xC {K:gj}{H:Hp}:∀{ds:List Dat}{vs:List V},ay K H ds vs->∀i,ay K H (ds.take i) (vs.take i)
 | _,_,_,0=>by simp[ay]
 | [],_,h,i + 1=>by rw[show _=[] from h];simp[ay]
 | d::ds,_,⟨v,r,e,q,t⟩,i + 1=>by
  rw[e];exact⟨v,_,rfl,q,xC t i⟩
theorem BM {K:gj}{H:Hp}:∀{ds:List Dat}{vs:List V},ay K H ds vs->∀i,ay K H (ds.drop i) (vs.drop i)
 | _,_,h,0=>h
 | [],_,h,i + 1=>by rw[show _=[] from h];simp[ay]
 | d::ds,_,⟨v,r,e,q,t⟩,i + 1=>by
  rw[e];exact BM t i
def GS {K:gj}:MD K "list" zV qE:=by
 intro H Hi p c ds vs d c' Q e sm f r k;unfold qE at e;split at e
 ·rename_i xs i dd;split at e
  ·rename_i g;cases e;obtain⟨h,j,a,l⟩:=f;obtain⟨v0,vr,rfl,b,v,vr',rfl,m,n⟩:=r;cases n;cases b;have hl:=a.length;refine⟨p,h,v,i.toNat,rfl,by rw[sr g.1],j,by omega,by omega,k .aK _ ⟨_,bu,ay.append (xC a _) ⟨v,_,rfl,m,BM a _⟩,l⟩ rfl⟩
  ·cases e
 ·cases e
def OP (k:X.N.findIdx? (· == x)=some i)(l:cc X.env.scope x)(hd:bJ x)(m:cM x)(f:TF (.Name x c) "insert" X.env (eval (.Name x c) X.env)=eval (.Name x c) X.env)(j:((T3 pos (ph [e,b] X.env)).all (λx=>!x.1) && (Y' pos (XU [] X.env)).all (λx=>x.1.isSome) && decide ([e,b].length + ([]:List Ws).length + (if ([]:List Ws).isEmpty then 0 else 1) < 30))=true)(g:(a.endLine == pos.line)=true)(p:bK X e [b])(n:(T3 pos (ph [b] X.env)).any (·.1)=false)(o:r0 (.Call (.Attribute (.Name x c) "insert" a) [e,b] [] pos) none d.line X.env=pure false)(q:DA X [e,b] fa) :
  cp X (.Expr (.Call (.Attribute (.Name x c) "insert" a) [e,b] [] pos) d) (kC (gG i qE fa)) :=
 tX (Au i (dJ k) l (λh=>mW Tu WH PySem.F.type_list_insert Jc (eC (dJ k) l hd m) h f j g p n) GS q) o
end
end DV
end
section
namespace L2
open PySem PySem.Spec PyProof.Rows
noncomputable def ym (d:cW) (o:tm) (kvs:List (Key×V)):It:=⟨λi H=>H d=some (.ba o (.dK kvs))/\i < kvs.length,λi H v a=>a=H/\∃k x,kvs[i]? = some (k,x)/\v=kV k,λi H=>H d=some (.ba o (.dK kvs))/\kvs.length<=i⟩
def KS (h:i8 k u=true):RelV (kV k) u:=by
 rcases iu h with⟨i,t,rfl,rfl⟩ | ⟨x,t,rfl,rfl⟩
 ·exact⟨t,rfl⟩
 ·exact⟨t,rfl⟩
def JD {P:hJ}{w:kq}{K:gj}{L:gs}{d it:cW}{o:tm}{kvs:List (Key×V)}{vs:List (Key×b8)}{ep:Nat}(p:KV kvs vs) (hne:d≠it) (F:∀h:m3,h.get? d=some o->h.DictAt (cG P w) d vs ep) :
  Turn P w K L (ym d o kvs) [it] it (λi h=>h.IsKeyIter it d i vs.length ep) where
 mem:=by simp
 obj:=λi h st b a=>by
  have e:b=it:=by simpa using a
  subst e;obtain⟨o,e,c,d⟩:=st;exact⟨o,e,λv z=>by rw[d] at z;cases z⟩
 keep:=λi h h' st k=>by
  obtain⟨o,e,c,d⟩:=st;exact⟨o,k it (by simp) o e,c,d⟩
 item:=by
  intro X q hw r G i f s J H E I j st t;subst q hw r;obtain⟨u,x,M,y,A,B⟩:=j it (by simp)
  obtain⟨hd,g⟩:=t;have C:=F s.heap (I.ai d _ hd).1;have m:i < vs.length:=by rw[<- p.length];exact g
  have hx:vs[i]? = some (vs[i].1,vs[i].2):=cm m;refine wpAny_pyNext_dict_item st C hx λkey h' D n N=>?_
  have O:Inv X f J H { s with heap:=h',toks:=s.toks }:=I.turned (λb o a e=>(N.2 b a).trans e) u x y A B
  obtain⟨o',e,c,dd⟩:=id n;have Q:kvs[i].1=vs[i].1:=by
   have:=congrArg (λl=>l[i]?) p.keys
   simp only[cn,cm g,cm m,px] at this;exact Option.some.inj this
  exact⟨_,rfl,mi (s:={ s with heap:=h',toks:=s.toks }) e c dd (by decide) ⟨kV kvs[i].1,H,O,by rw[Q];exact KS D,⟨rfl,kvs[i].1,kvs[i].2,cm g,rfl⟩,n,λb a=>(j b a).1⟩⟩
 done:=by
  intro X q hw r G i f s J H E I j st t;subst q hw r;obtain⟨u,x,M,y,A,B⟩:=j it (by simp)
  obtain⟨hd,g⟩:=t;have C:=F s.heap (I.ai d _ hd).1;exact wpAny_pyNext_dict_end (I.ok.hd G) st C (List.getElem?_eq_none (by rw[<- p.length];exact g)) λh' R=>⟨rfl,I.turned (t':=s.toks) (λb o a e=>R b o a e) u x y A B⟩
 self:=λ_ _ _ _ _ st h=>XR st h
section
variable {X:Cx}
theorem Inv.ba (I:Inv X f h H s)(e:H d=some (.dK kvs))(j:s.heap.get? d=some o):Inv X f h (upd H d (.ba o (.dK kvs))) s:=by
  have g:∀b u,H b=some u->u≠.dK kvs->b≠d:=λb u q z y=>by rw[y,e] at q;cases q;exact z rfl
  have un:Un X.fs [] H (upd H d (.ba o (.dK kvs))) s.heap s.heap :=
    ⟨λb a q _ _ _=>q,λb a q _ _ _=>⟨a.slots,q⟩,λb a q n _=>by rw[aA (λz=>by rw[z,e] at n;cases n)];exact n,λb a q _=>⟨a,q⟩,
     λb xs q=>by rw[aA (g b _ q (by intro z;cases z))];exact q,λb a u q=>by rw[aA (g b _ q (by intro z;cases z))];exact q,λb ps q=>⟨#[],by rw[aA (g b _ q (by intro z;cases z)),q];simp⟩⟩
  have st:∀b u,cB X.prog X.w H s.heap b u->cB X.prog X.w (upd H d (.ba o (.dK kvs))) s.heap b u:=λb u x =>
    x.ij (λc v _ q=>q) (λc q=>by rw[aA (g c _ q (by intro z;cases z))];exact q) λc xs q=>by rw[aA (g c _ q (by intro z;cases z))];exact q
  have ai:bS X.prog X.w (upd H d (.ba o (.dK kvs))) s.heap:=λb u q=>by
    by_cases i:b=d
    · subst i
      rw[bu] at q;cases q;exact⟨j,st _ _ (I.ai _ _ e)⟩
    · rw[aA i] at q
      exact st _ _ (I.ai b u q)
  exact I.un (t':=s.toks) un ai
end
end L2
namespace DV
open PySem PySem.Spec PyProof.Rows L2
structure jZ (x:eT):Prop where
 ok:True
noncomputable def O1 (i:Nat):IF:=λZ=>match Z[i]? with
 | some (.own (.bN a))=>some (a.map λk=>.str k.1,Z.set i (.dat (.dE a)))
 | _=>none
section
variable {X:Cx}{pos:qe}
noncomputable def p8 (i:Nat) (g:DF):DF:=λZ=>match Z[i]? with
 | some (.dat (.dE a))=>(g Z).bind λp=>match p.1 with
  | .str k=>(dc a k).map λd=>(d,p.2)
  | _=>none
 | _=>none
def Jq (hx:jZ x)(r:X.N.findIdx? (· == x)=some i)(s:cc X.env.scope x)(t:X.A.units + 1 < vi)(hd:bJ x)(j:cM x)(u:mD b)(w:DD X b g):DD X (.Subscript (.Name x q) b pos) (p8 i g):=by
 obtain⟨tb,z,B⟩:=w;refine⟨_,vG t (eC (dJ r) s hd j) z u,λC D Z E H F d Z' Q e S k=>?_⟩
 unfold p8 at e;split at e
 ·rename_i G I;cases a:g Z with
  | none=>rw[a] at e;cases e
  | some p =>
   obtain⟨n,Z1⟩:=p;rw[a] at e;simp only[a5] at e;split at e
   ·rename_i c;cases f:dc G c with
    | none=>rw[f] at e;cases e
    | some d' =>
     rw[f] at e;cases e;obtain⟨v0,J,p,o,kvs,rfl,K,L⟩:=S.dat i _ I;refine⟨_,J,B C D Z E H F _ _ _ a S λy M l m h O=>?_⟩
     cases O;obtain⟨v,P,R⟩:=((L.mono h).find c).1 d f;refine⟨p,v,rfl,?_,k v M l m h R⟩;rw[<- P];exact .inl ⟨kvs,nE c,.inr ⟨o,m.sub _ _ (h _ _ K)⟩,rfl,rfl⟩
   ·cases e
 ·cases e
end
end DV
end
section
namespace L2
open PySem PySem.Spec PyProof.Rows
def Rd.Cz (h:Rd H a (.lst xs))(h':Rd H a (.lst ys)):xs=ys:=by
 rcases h with h | ⟨o,h⟩ <;> rcases h' with h' | ⟨o',h'⟩ <;> rw[h] at h' <;> cases h' <;> rfl
end L2
namespace DV
open PySem PySem.Spec PyProof.Rows L2
end DV
end
section
namespace L2
open PySem PySem.Spec PyProof.Rows
noncomputable def gd (a:List Key) (v:Key):List Key:=if a.any (λx=>decide (x=v)) then a else a++[v]
noncomputable def du (val:Nat->Key) (i:Nat):List Key:=((lp i).map val).foldl gd []
def yX (val) (i):du val (i + 1)=gd (du val i) (val i):=by unfold du;rw[XZ,f',XG];rfl
theorem vQ (val):∀i,(du val i).length<=i
 | 0=>eS _
 | i + 1=>by
  have ih:=vQ val i;rw[yX];unfold gd;split
  ·omega
  ·simp only[eJ,TV];omega
def Kd (a) (v k):(gd a v).any (λx=>decide (x=k))=(a.any (λx=>decide (x=k)) || decide (k=v)):=by
 unfold gd
 by_cases h:a.any (λx=>decide (x=v))=true
 ·rw[if_pos h]
  by_cases e:k=v
  ·subst e;rw[h];simp
  ·simp[e]
 ·rw[if_neg h,List.any_append]
  by_cases e:k=v
  ·subst e;simp
  ·have:¬v=k:=λz=>e z.symm
   simp[e,this]
def yZ (a) (v):(gd a v).length=if a.any (λx=>decide (x=v)) then a.length else a.length + 1:=by
 unfold gd;split <;> simp
section
variable {P:hJ}{w:kq}{A:pl}{R:Yh->cA->Prop}{I:cW}{fp wr:List cW}{G:Array WC->Array WC->Prop}{n:Nat}{Pr:Nat->b8->Prop}{St:Nat->cA->Prop}
theorem Lw (W:WalksS P w A.in1 I fp wr G n Pr St) (S:cW) (B:S∉fp) (val:Nat->Key) (M:∀i v,Pr i v->i8 (val i) v=true/\v.scannable=true) (hb:n + 1 < YH) :
  ∀(k i:Nat) (s:cA),n - i=k->i<=n->St i s->s.heap.SetOf (cG P w) S (λa=>(du val i).any λx=>decide (x=a)) (du val i).length ->
   (∀s',Moved (S::wr) G s s'->s'.heap.SetOf (cG P w) S (λa=>(du val n).any λx=>decide (x=a)) (du val n).length->R (.ok (.ret .none)) s') ->
   Ve (hR P w) A (.builtin "set.update.loop" ⟨[.ref S,.ref I],[]⟩) R s:=by
 have hw:S∉wr:=λh=>B (W.sub _ h)
 have C:∀b∈wr,b∈S::wr:=λb z=>ew _ z
 intro k;induction k with
 | zero =>
  intro i s N O st j l;obtain rfl:i=n:=by lia
  refine Ul Uw ?_;rw[TY C' _];refine bt (m:=Vc (.ref I)) (W.done s _ _ st λs' c=>?_)
  refine eR (l s' (c.mono C) ?_);obtain⟨o,p,ep,t,q,r⟩:=j;exact⟨o,p,ep,t,c.heap S _ hw q,r⟩
 | succ k Q =>
  intro i s N O st j l;have d:i < n:=by omega
  refine Ul Uw ?_;rw[TY C' _];refine bt (m:=Vc (.ref I)) (W.item i s _ _ d st λv s' T D c=>?_)
  obtain⟨f,E⟩:=M i v T;have H:s'.heap.SetOf (cG P w) S (λa=>(du val i).any λx=>decide (x=a)) (du val i).length:=by
   obtain⟨o,p,ep,U,q,r⟩:=j;exact⟨o,p,ep,U,c.heap S _ hw q,r⟩
  refine bt (m:=Ub [v] (setAdd S v)) (nL ?_);unfold setAdd;refine nL (bt ((cG P w).pyHash (k:=val i) f ?_));have room:(du val i).length + 1 < scanBound:=by have:=vQ val i;lia
  refine wpAny_setAddHashed_of (knd:=cG P w) (s:={ s' with toks:=s'.toks + 1 }) f E H room λh' g J=>?_
  have K:h'.SetOf (cG P w) S (λa=>(du val (i + 1)).any λx=>decide (x=a)) (du val (i + 1)).length:=by
   rw[yX,yZ];have e:(λa=>(du val i).any (λx=>decide (x=a)) || decide (a=val i))=λa=>(gd (du val i) (val i)).any λx=>decide (x=a):=funext λa=>(Kd _ _ _).symm
   simp only[<- e];exact J
  refine eR ⟨WZ C' _,Q (i + 1) _ (by omega) d (W.frame _ s' _ _ D (Uz _) λb z o e=>?_) K λL u y=>?_⟩
  ·rw[g.2 b (λh:b=S=>B (h ▸ z))];exact e
  ·refine l L (Moved.trans W.gtrans ((c.mono C).then_heap (Uz _) λb o z e=>?_) u) y
   rw[g.2 b (λh:b=S=>z (h ▸ eH))];exact e
end
section
variable {P:hJ}{w:kq}{A:pl}{E:b8->cA->Prop}{s:cA}
theorem Mn (hh:A.handled=none)(X:s.heap.IsList l items)(Y:∀i v,items[i]? = some v->i8 (val i) v=true/\v.scannable=true)(n:items.size + 1 < YH)(h:∀(h':m3) (tk:Nat),h'.SetOf (cG P w) s.heap.objs.size (λD=>(du val items.size).any λx=>decide (x=D)) (du val items.size).length->(∀b o,b < s.heap.objs.size->s.heap.get? b=some o->h'.get? b=some o)->Q (.ref s.heap.objs.size) { s with heap:=h',toks:=tk }) :
  hE (hR P w) A (call (.type "set") [.ref l]) Q E s:=by
 obtain⟨c,tl,hmro⟩:=tz.mro;have hmade:=PySem.F.called_set.made;have hsub:=tz.sub;refine wpAny_call (codeAny_of_tree ?_);show hE _ _ (callAny (.type "set") _) _ _ _;refine eR ⟨Code.quiet_builtin _ (by decide +kernel),Ul PySem.F.entry_type_call ?_⟩
 rw[Around.under_plain (weight_type_call_type "set" [.ref l] []) rfl];have h1:=tz.notType;have h2:=tz.canCreate;have hct:=PySem.F.typeCall_set_1 (.ref l)
 repeat (any_goals (first | assumption | wp_step))
 refine Vd (code_set_new_1 (.ref l) (E:=E) (Q₁:=λobj f=>∃a:Bool,obj=.ref s.heap.objs.size/\f={ s with heap:=s.heap.push { cls:=.type "set",dict:=none,data:=.set #[] 0 (.fresh 0 0 a) } }) λa=>⟨a,rfl,rfl⟩) λr f G=>?_
 cases r with
 | error e=>exact G
 | ok Z =>
  cases Z with
  | ret obj =>
   obtain⟨a,rfl,rfl⟩:=G;have L:(s.heap.push { cls:=.type "set",dict:=none,data:=.set #[] 0 (.fresh 0 0 a) }).get? s.heap.objs.size=some { cls:=.type "set",dict:=none,data:=.set #[] 0 (.fresh 0 0 a) }:=hB _ rfl;have hT:Shared.TypeIs { s with heap:=s.heap.push { cls:=.type "set",dict:=none,data:=.set #[] 0 (.fresh 0 0 a) } } (.ref s.heap.objs.size) "set":=⟨_,L,rfl⟩
   have hli:=tz.init.lookup;have hbi:=tz.init.bind (.ref s.heap.objs.size)
   repeat (any_goals (first | assumption | wp_step))
   refine Vd (codeAny_call_builtin (R:=wants (λr g=>r=.none/\∃h' tk,g={ s with heap:=h',toks:=tk } /\
     h'.SetOf (cG P w) s.heap.objs.size (λD=>(du val items.size).any λx=>decide (x=D)) (du val items.size).length /\
     (∀b o,b < s.heap.objs.size->s.heap.get? b=some o->h'.get? b=some o)) E) tz.init.plain PySem.F.entry_set_init (check_set_init_1 hT ?_)) λH g d=>?_
   ·obtain⟨ol,u,y,nl,z⟩:=X;obtain⟨ocls,p,odata,j⟩:=ol;simp only at y z;subst y;subst z;have I:(s.heap.push { cls:=.type "set",dict:=none,data:=.set #[] 0 (.fresh 0 0 a) }).get? l=some { cls:=.type "list",dict:=p,data:=.seq items nl,slots:=j }:=el _ u;have hsls:=PySem.F.sub_list_set;have hslf:=PySem.F.sub_list_frozenset;have hne:(W1 "list" == W1 "dict")=false:=by decide
    have B:(s.heap.push { cls:=.type "set",dict:=none,data:=.set #[] 0 (.fresh 0 0 a) }).IsList l items:=⟨_,I,rfl,nl,rfl⟩;unfold T6.«set.__init__» noKeywords XW
    generalize M:Ya=PI
    wp_walk
    subst M;refine To B (bt (wpAny_runValue ?_));have C:l < s.heap.objs.size:=fj u;have N:A.in1.in1.in1.handled=none:=by simp[hh]
    have J:l≠(s.heap.push { cls:=.type "set",dict:=none,data:=.set #[] 0 (.fresh 0 0 a) }).objs.size:=by
     rw[Ug];exact gW (Uy C)
    have O:s.heap.objs.size∉[(s.heap.push { cls:=.type "set",dict:=none,data:=.set #[] 0 (.fresh 0 0 a) }).objs.size,l]:=by
     rw[Ug];simp only[cR,iR,fm,or_false,not_or];exact⟨gW (UK _),US C⟩
    refine Lw ((Walks.list N _ l J items).toS) s.heap.objs.size O val Y n (items.size - 0) 0 _ (by lia) (qh _) ⟨⟨_,hB _ rfl,rfl,rfl⟩,(B.push _)⟩ ?z0 ?zR
    case z0 =>
     have K:((s.heap.push { cls:=.type "set",dict:=none,data:=.set #[] 0 (.fresh 0 0 a) }).push { cls:=.type "list_iterator",data:=.fields #[.ref l,.int 0 0] }).get? s.heap.objs.size=some { cls:=.type "set",dict:=none,data:=.set #[] 0 (.fresh 0 0 a) }:=el _ L;exact⟨_,#[],0,_,K,⟨rfl,rfl,rfl⟩,rfl,λe he=>by simp at he,λk=>by simp[du],by decide,by rfl,rfl⟩
    case zR =>
     intro s' q m;obtain⟨h',g',d',S,T⟩:=s';have eg:g'=s.gens:=q.gens;have ed:d'=s.drawn:=q.drawn;have eo:T=s.os:=q.os;subst eg;subst ed;subst eo;show hE _ _ _ _ _ _;refine eR ?_;show hE _ _ (ret n6) _ _ _;refine eR ⟨rfl,h',S,rfl,m,λb o n e=>?_⟩
     have U:b≠s.heap.objs.size:=gW n;have V:b≠(s.heap.push { cls:=.type "set",dict:=none,data:=.set #[] 0 (.fresh 0 0 a) }).objs.size:=by
      rw[Ug];exact gW (Uy n)
     refine q.heap b o ?_ (el _ (el _ e));simp only[cR,iR,fm,or_false,not_or];exact⟨U,V⟩
   ·cases H with
    | error e=>exact d
    | ok t =>
     cases t with
     | ret r =>
      obtain⟨rfl,h',tk,rfl,m,W⟩:=d
      repeat (any_goals (first | assumption | wp_step))
      exact h _ _ m W
     | _=>exact d.elim
  | _=>exact G.elim
end
section
variable {X:Cx}
noncomputable def vv (P:hJ) (w:kq) (a:cW) (n:Nat):HO:=.ext λh=>n < 4096/\∃S,h.SetOf (cG P w) a S n
noncomputable def ku (ys:List eT):Nat:=(du (λi=>nE ((ys[i]?).getD n4)) ys.length).length
def LH (m:X.calm=true):bO X (.type "set") (λxs H Q=>∃(p:cW) (ys:List eT),xs=[.ref p]/\Rd H p (.lst (ys.map V.str))/\ys.length < 1000/\∀a,H a=none->Q (.ref a) (upd H a (vv X.prog X.w a (ku ys)))):=by
 intro pins s σ H xs us Q I r h;obtain⟨p,ys,rfl,x,hz,q⟩:=h;obtain⟨u,rfl,y⟩:=r.one;cases y;obtain⟨z,its,n,f,e⟩:=x.ok I.ai;have A:s.heap.IsList p its.toArray:=⟨_,e,rfl,n,rfl⟩;have g:its.length=ys.length:=by have:=f.length;simpa using this.symm
 refine Mn (P:=X.prog) (w:=X.w) (val:=λi=>nE ((ys[i]?).getD n4)) (I.ok.hd m) A (λi v B=>?_) (by rw[e7];unfold YH;omega) λh' tk c C=>?_
 ·obtain⟨t,rfl⟩:=qX f (show its[i]? = some v by simpa using B)
  exact⟨xQ _ t,rfl⟩
 ·have hsz:its.toArray.size=ys.length:=by rw[e7];exact g
  rw[hsz] at c;have D:=I.ai.fresh (a:=s.heap.objs.size) (eS _);refine⟨.ref s.heap.objs.size,upd H s.heap.objs.size (vv X.prog X.w s.heap.objs.size (ku ys)),?_,rfl,q _ D⟩;have hle:ku ys<=ys.length:=vQ _ _;refine I.laid (t':=tk) (λb o j=>C b o (fj j) j) (eS _) ⟨⟨by lia,_,c⟩,?_,λh1 h2 ⟨E,S,o,l,ep,t,d,r⟩ k=>⟨E,S,o,l,ep,t,k o d,r⟩⟩
  obtain⟨o,l,ep,t,d,_⟩:=c;exact⟨o,d⟩
def HU:bO X (.builtin "len") (λxs H Q=>∃(a:cW) (n:Nat),xs=[.ref a]/\H a=some (vv X.prog X.w a n)/\Q (.int n) H):=by
 intro pins s σ H xs us Q I r h;obtain⟨a,n,rfl,c,q⟩:=h;obtain⟨u,rfl,d⟩:=r.one;cases d;obtain⟨⟨hn,S,o,e,ep,t,f,b,hd,hel,hmem,hb,g,hsz⟩,_,_⟩:=I.ai a _ c;subst hsz;exact call_len_set f b hd g (by lia) ⟨.int e.size,H,I.tok _,⟨_,rfl⟩,q⟩
end
end L2
namespace DV
open PySem PySem.Spec PyProof.Rows L2
section
variable {X:Cx}{pos:qe}
noncomputable def p9 (f:DF):DF:=λZ=>(f Z).bind λp=>match p.1 with
 | .lst ds=>(cH ds).bind λys=>if ys.length < 1000 then some (.int (ku ys:Nat),p.2) else none
 | _=>none
theorem Ir (y:X.calm=true)(z:Gl X "len")(A:X.mg "len"=none)(o:Gl X "set")(r:X.mg "set"=none)(j:bK X e [])(s:ph [.Call (.Name "set" l) [e] [] i] X.env=(false,eval (.Call (.Name "set" l) [e] [] i) X.env)::ph [] X.env)(h:DD X e f):DD X (.Call (.Name "len" p) [.Call (.Name "set" l) [e] [] i] [] pos) (p9 f):=by
 obtain⟨t,pt,B⟩:=h;refine⟨_,pQ HU z A U7 (jB (sN (LH y) o r (show P2 (ec "set")=some (.type "set") from by decide +kernel) (jB pt nD j) (by decide) (by decide) j rfl) nD s) (by decide) (by decide) s rfl,λC D Z E H F d Z' Q g S k=>?_⟩
 unfold p9 at g;cases m:f Z with
 | none=>rw[m] at g;cases g
 | some q =>
  obtain⟨c,Z1⟩:=q;rw[m] at g;dsimp only[a5] at g;split at g
  ·rename_i ds;cases n:cH ds with
   | none=>rw[n] at g;cases g
   | some ys =>
    rw[n] at g;simp only[a5] at g;split at g
    ·rename_i G;cases g;refine B C D Z E H F _ _ _ m S λv H1 u w I J=>?_
     obtain⟨a,ws,rfl,x,rs⟩:=J;rw[jP n rs] at x;refine⟨a,ys,rfl,Rd.mono w.sub x,G,λb K=>⟨b,ku ys,rfl,bu,?_⟩⟩
     exact k _ _ u (w.made K) I rfl
    ·cases g
  ·cases g
end
end DV
namespace bW
open PySem PySem.Spec PyProof.Rows L2 DV
structure j7 (mg:eT->Option b8):Prop where
 any:mg "any"=none
 sum:mg "sum"=none
 set:mg "set"=none
 enum:mg "enumerate"=none
end bW
end
section
namespace L2
open PySem PySem.Spec PyProof.Rows
end L2
end
section
namespace DV
open PySem PySem.Spec PyProof.Rows L2
theorem AV (put:c->DS)(keep:c->Bool)(val:c->Dat):∀(xs:List c) (a:List Dat) (Z:DS),a.length + xs.length<=bg ->
  (∀x∈xs,∀Z,(Z=j\/∃y,Z=put y)->g (enc x) Z=some (put x))->(∀x∈xs,fc (put x)=some (keep x,put x))->(∀x∈xs,keep x=true->fe (put x)=some (val x,put x))->(∀x∈xs,noOwn (put x)=true)->(Z=j\/∃y,Z=put y) ->
  ∃d,compLoop g fc fe (xs.map enc) a Z=some (a++(xs.filter keep).map val,d)
 | [],a,Z,_,_,_,_,_,_=>⟨Z,by simp[compLoop]⟩
 | x::xs,a,Z,r,k,l,m,n,hd=>by
  simp only[fk] at r;have o:=k x (eH ..) Z hd;have p:=l x (eH ..);have n1:=n x (eH ..);have f:=λh (q:h.length + xs.length<=bg)=>AV put keep val xs h (put x) q (λy b=>k y (ew _ b)) (λy b=>l y (ew _ b)) (λy b=>m y (ew _ b)) (λy b=>n y (ew _ b)) (.inr ⟨x,rfl⟩)
  cases i:keep x with
  | false =>
   obtain⟨d,e⟩:=f a (by omega)
   refine⟨d,?_⟩;show (g (enc x) Z).bind _=_;rw[o];show (fc (put x)).bind _=_;rw[p,i];show (if noOwn (put x)=true then compLoop g fc fe (xs.map enc) a (put x) else none)=_
   rw[if_pos n1,e,T1,i];simp
  | true =>
   obtain⟨d,e⟩:=f (a++[val x]) (by rw[eJ];simp;omega)
   refine⟨d,?_⟩;show (g (enc x) Z).bind _=_;rw[o];show (fc (put x)).bind _=_;rw[p,i];show (fe (put x)).bind _=_;rw[m x (eH ..) i];show (if a.length < bg/\noOwn (put x)=true then _ else none)=_
   rw[if_pos ⟨by omega,n1⟩,e,T1,i]
   simp
def jh {a:Type}{enc:a->Dat}{caps:List (Option Nat)}{fi:IF}{g:GF}{fc:BF}{fe:DF}{xs:List a}{Z Z1 Z2:DS}(put:a->DS) (keep:a->Bool) (val:a->Dat) (b:fi Z=some (xs.map enc,Z1)) (c:ba none caps Z1=Z2) (d:xs.length<=bg)
  (f:∀x∈xs,∀Z,(Z=bV caps Z2\/∃y,Z=put y)->g (enc x) Z=some (put x)) (h:∀x∈xs,fc (put x)=some (keep x,put x)) (i:∀x∈xs,keep x=true->fe (put x)=some (val x,put x)) (j:∀x∈xs,noOwn (put x)=true) :
  dN caps none fi g fc fe Z=some (.own (.lst ((xs.filter keep).map val)),Z2):=by
 obtain⟨Z',e⟩:=AV (enc:=enc) put keep val xs [] (bV caps Z2) (by simpa using d) f h i j (.inl rfl)
 exact zi b c e
def fY {a:Type}{enc:a->Dat}{caps:List (Option Nat)}{fi:IF}{g:GF}{fe:DF}{xs:List a}{Z Z1 Z2:DS}(put:a->DS) (val:a->Dat) (b:fi Z=some (xs.map enc,Z1)) (c:ba none caps Z1=Z2) (d:xs.length<=bg)
  (e:∀x∈xs,∀Z,(Z=bV caps Z2\/∃y,Z=put y)->g (enc x) Z=some (put x)) (f:∀x∈xs,fe (put x)=some (val x,put x)) (h:∀x∈xs,noOwn (put x)=true) :
  dN caps none fi g (λZ=>some (true,Z)) fe Z=some (.own (.lst (xs.map val)),Z2):=by
 have:=jh (enc:=enc) (caps:=caps) (fi:=fi) (g:=g) (fc:=λZ=>some (true,Z)) (fe:=fe) (xs:=xs) (Z:=Z) put (λ_=>true) val b c d e (λ_ _=>rfl) (λx hx _=>f x hx) h
 rw[Xb.mpr (by intros;rfl)] at this
 exact this
theorem kN (f):∀cs:List a,cH (cs.map λc=>.str (f c))=some (cs.map f)
 | []=>rfl
 | c::cs=>by
  show (cH (cs.map λc=>.str (f c))).map (f c::·)=_
  rw[kN f cs];rfl
def My {a:Type}(f:a->Bool) (cs:List a):nh [.lst (cs.map λc=>.bl (f c))]=some (.dat (.bl (cs.all f))):=by
 show (gh _).map _=_;rw[qL f];simp
def OA {a:Type}(f:a->Bool) (cs:List a):pS [.lst (cs.map λc=>.bl (f c))]=some (.dat (.bl (cs.any f))):=by
 show (gh _).map _=_;rw[qL f];simp
def vW (f)(h:cs≠[]):lJ [.lst (cs.map λc=>.str (f c))]=some (.dat (.str (eA (cs.map f)))):=by
 show (cH _).bind _=_;rw[kN f];show (if cs.map f=[] then none else _)=_
 rw[if_neg (by simpa using h)]
def xS {a:Type}{f:DF}{Z Z1:DS}{cs:List a}(g:a->eT) (h:f Z=some (.lst (cs.map λc=>.str (g c)),Z1)) (b:cs.length < 1000):p9 f Z=some (.int (ku (cs.map g):Nat),Z1):=by
 unfold p9;rw[h];show (cH _).bind _=_;rw[kN g];show (if (cs.map g).length < 1000 then _ else none)=_
 rw[if_pos (by rw[a8];exact b)]
section
variable {X:Cx}{pos apos:qe}
theorem Bz:∀(more a:List (Key×V)),((a++more).map (·.1)).Nodup->jL a more=a++more
 | [],a,_=>by show a=_;rw[xr]
 | p::r,a,h=>by
  have e:putK a p.1 p.2=a++[p]:=by
   unfold putK;rw[if_neg];intro z;obtain⟨q,b,e⟩:=j3.mp z;have e:q.1=p.1:=by simpa using e
   rw[f',ia] at h;exact h.2.2 q.1 (a9.mpr ⟨q,b,rfl⟩) p.1 (by simp) e
  show jL (putK a p.1 p.2) r=_;simp only[e,Bz r (a++[p]) (by rw[mu];exact h),mu]
  rfl
end
end DV
end
section
namespace PySem
open Sem (wp)
def NH:Wx (.type "list") "keys"=pure none:=by rw[typeLookup_type,builtinLookup_eq_fast];kernel_rfl
def Bg:entryFor table "dict.update.loop"=some T6.«dict.update.loop»:=entryFor_of_tree (by kernel_rfl)
def qf:plainId "dict.update.loop"=true:=by decide +kernel
def FP (hx:s.heap.IsList a xs)(hd:∀o,s.heap.get? a=some o->o.dict=none)(i:Wx (.type "list") name=pure none)(j:(["__module__","__name__","__qualname__","__doc__","__annotations__"]:List eT).contains name=false)(q:A.handled=none)(h:∀h' tk,(∀b o,s.heap.get? b=some o->h'.get? b=some o)->Q none { s with heap:=h',toks:=tk })(hsz:name.length + 100<=sizeLine:=by size_fits) :
  hE (hR prog w) A (getAttr? (.ref a) name) Q E s:=by
 obtain⟨o,hx,n,k,f⟩:=hx;have hd:=hd o hx;obtain⟨c,bN,dat,r⟩:=o;simp only at n f hd;subst n f hd;obtain⟨t,g,d,tk,os⟩:=s;have p:∀l,(⟨t,g,d,l,os⟩:cA).TypeIs (.ref a) "list":=λ_=>⟨_,hx,rfl⟩
 have f1:=sub_AttributeError;have f3:=WI.lookup;have f4:=F.slot_list_getattribute.bind (.ref a);have f5:=am_list_getattr_none;unfold getAttr? getAttrBy? getAttrBy
 repeat (any_goals (first | assumption | exact p _ | ((with_reducible show hE _ _ (call (Value.builtin "list.__getattribute__") _ _) _ _ _);refine Vf WI (p _) am_entry_list_getattribute (F.args_list_getattribute_2 _ _) (meets_getattribute_miss_list a xs k r name _ i j hsz) ⟨hx,q,λh' l e m=>?_⟩) | wp_step))
 obtain⟨t',u',he⟩:=m.there;show hE _ _ (Yb _ _ _ _ _ _ _) _ _ _;unfold Yb
 repeat (any_goals (first | assumption | wp_step))
 exact h _ _ m.of.keeps
section
variable {prog:hJ}{w:kq}{K:Type} [DecidableEq K] {knd:Yi prog w K}{A:pl}{E:b8->cA->Prop}{s:cA}
def Gy (h:T7 s.heap a #[k,v])(q:Q [k,v] s):hE (hR prog w) A (VP (.ref a)) Q E s:=by
 obtain⟨o,b,c,n,hd⟩:=h;unfold VP;refine bt (Xm (show s.TypeIs (.ref a) "tuple" from ⟨o,b,c⟩) ?_)
 rw[if_pos (by decide)]
 refine bt (wpAny_seqItems b hd ?_);exact eR q
structure w8 (knd:Yi prog w K) (h:m3) (u:b8) (kv:K×b8) (a:cW) (k:b8):Prop where
 at_:u=.ref a
 tup:T7 h a #[k,kv.2]
 key:knd.is kv.1 k=true
theorem K1 (hh:A.handled=none)(z:l≠I)(q:d≠I)(O:d≠l)(hl:more.length=items.size)(hz:more.length<=bg) :
  ∀(m i:Nat) (s:cA),items.size - i=m->i<=items.size->s.heap.IsListIter I l i->s.heap.IsList l items->s.heap.DictOf knd d (Xq [] (more.take i)) ->
   (∀(j:Nat) (u:b8) (y:K×b8),items[j]? = some u->more[j]? = some y->∃a k,w8 knd s.heap u y a k/\a≠I/\a≠d) ->
   (∀h' tk,h'.DictOf knd d (Xq [] more)->(∀b o,b≠I->b≠d->s.heap.get? b=some o->h'.get? b=some o)->R (.ok (.ret .none)) { s with heap:=h',toks:=tk }) ->
   ∀(n:Int) (t:Zp),Ve (hR prog w) A (.builtin "dict.update.loop" ⟨[.ref d,.ref I,.int n t,.none],[]⟩) R s:=by
 intro m;induction m with
 | zero =>
  intro i s Z hi st F hd G H n t;have P:i=items.size:=by omega
  subst P;refine Ul Bg ?_;rw[TY qf _];unfold T6.«dict.update.loop»
  show hE _ A.in1 (Vc (.ref I) >>= _) _ _ s;have W:=Walks.list (prog:=prog) (w:=w) (A:=A.in1) (by simp[hh]) I l z items
  refine bt (W.done s _ _ ⟨st,F⟩ λh' tk k=>?_)
  show hE _ A.in1 (YZ d [] >>= _) _ _ _;refine bt (eR ?_);show hE _ A.in1 (ret n6) _ _ _;rw[TJ (by lia)] at hd
  refine eR (H h' tk ?_ λb o g J e=>k b o (by simpa using g) e)
  obtain⟨o,L,ep,c,r⟩:=hd;exact⟨o,L,ep,k d o (by simpa using q) c,r⟩
 | succ m ih =>
  intro i s Z hi st F hd G H n t;have B:i < items.size:=by omega
  refine Ul Bg ?_;rw[TY qf _];unfold T6.«dict.update.loop»
  show hE _ A.in1 (Vc (.ref I) >>= _) _ _ s;have W:=Walks.list (prog:=prog) (w:=w) (A:=A.in1) (by simp[hh]) I l z items
  refine bt (W.item i s _ _ B ⟨st,F⟩ λv g tk hv C k1=>?_)
  have D:more[i]? = some more[i]:=cm (by omega)
  obtain⟨a,k,M,na,nd⟩:=G i v _ hv D;have ev:=M.at_;subst ev;have x:∀b o,b≠I->s.heap.get? b=some o->g.get? b=some o:=λb o h e=>k1 b o (by simpa using h) e
  have Q:g.DictOf knd d (Xq [] (more.take i)):=by
   obtain⟨o,L,ep,c,r⟩:=hd;exact⟨o,L,ep,x d o q c,r⟩
  have S:T7 g a #[k,more[i].2]:=by
   obtain⟨o,c,r⟩:=M.tup;exact⟨o,x a o na c,r⟩
  have hsz:(Xq [] (more.take i)).length<=sizeLine:=by
   have:=merged_length_le ([]:List (K×b8)) (more.take i);simp only[gg,wm] at this
   lia
  show hE _ A.in1 (Ub [ti a] _ >>= _) _ _ _;refine bt (nL (bt (wpAny_tryCatch (Gy S ?_))));show hE _ A.in1 (Ub [k,more[i].2] (dictSet d k more[i].2)) _ _ _;refine nL (wpAny_dictSet_pairs (s:={ s with heap:=g,toks:=tk }) (hsz:=hsz) M.key Q λJ T N=>?_)
  have U:∀b o,b≠I->b≠d->s.heap.get? b=some o->J.get? b=some o:=λb o h f e=>(N.2 b f).trans (x b o h e)
  refine eR ⟨WZ qf _,ih (i + 1) { s with heap:=J,toks:=tk + 1 } (by omega) B ?_ ?_ ?_ ?_ ?_ _ _⟩
  ·obtain⟨o,c,r⟩:=C.1;exact⟨o,(N.2 I (Ne.symm q)).trans c,r⟩
  ·obtain⟨o,c,r⟩:=C.2;exact⟨o,(N.2 l (Ne.symm O)).trans c,r⟩
  ·rw[merged_take_succ _ _ _ _ D];exact T
  ·intro j u y hu V;obtain⟨a,k,p,n1,n2⟩:=G j u y hu V;refine⟨a,k,⟨p.at_,?_,p.key⟩,n1,n2⟩;obtain⟨o,c,r⟩:=p.tup;exact⟨o,U a o n1 n2 c,r⟩
  ·intro h' X Y k';exact H h' X Y λb o h f e=>k' b o h f (U b o h f e)
def NP (hh:A.handled=none)(x:s.heap.IsList l items)(hd:∀o,s.heap.get? l=some o->o.dict=none)(J:more.length=items.size)(L:more.length<=bg)(M:∀(j:Nat) (u:b8) (n:K×b8),items[j]? = some u->more[j]? = some n->∃a k,w8 knd s.heap u n a k)(h:∀h' tk,h'.DictOf knd s.heap.objs.size (Xq [] more)->(∀b o,s.heap.get? b=some o->h'.get? b=some o)->Q (.ref s.heap.objs.size) { s with heap:=h',toks:=tk }) :
  hE (hR prog w) A (call (.type "dict") [.ref l]) Q E s:=by
 refine callType_codes (Q₁:=λobj g=>obj=.ref s.heap.objs.size/\g={ s with heap:=s.heap.push { cls:=.type "dict",data:=.dict #[] } }) F.kt_called_dict (F.kt_typeCall_dict_1 _) F.entry_dict_init (kt_code_dict_new _ ⟨rfl,rfl⟩) ?_
 rintro obj g ⟨rfl,rfl⟩;have d:(s.heap.push { cls:=.type "dict",data:=.dict #[] }).DictOf knd s.heap.objs.size []:=Zc s.heap;have i:=x.push { cls:=.type "dict",data:=.dict #[] };have q:l < s.heap.objs.size:=let ⟨_,c,_⟩:=x;fj c
 have z:∀o,(s.heap.push { cls:=.type "dict",data:=.dict #[] }).get? l=some o->o.dict=none:=λo e=>by
  obtain⟨o',c,r⟩:=x;rw[el _ c] at e;cases e;exact hd _ c
 refine⟨d.typeIs,F.args_dict_init_2 _ _,?_⟩;unfold T6.«dict.__init__»
 refine bt ?_;dsimp only[YW];refine bt (XH d.typeIs ?_);show hE _ _ (pure (s.heap.objs.size,[ti l])) _ _ _;refine eR ?_;show hE _ _ (VE "dict.__init__" s.heap.objs.size (.ref l) [] .none) _ _ _;dsimp only[VE];refine bt (Xm (s:={ s with heap:=s.heap.push { cls:=.type "dict",data:=.dict #[] } }) i.typeIs ?_)
 rw[if_pos (by decide)]
 refine bt (FP i z NH (by decide +kernel) (by simp[hh]) (λm tk y=>?_) (by decide +kernel))
 rw[if_pos (show (Option.none:Option b8).isNone=true from rfl)]
 refine bt (wpAny_rule ?_);have t:m.IsList l items:=by
  obtain⟨o,c,r⟩:=i;exact⟨o,y _ _ c,r⟩
 refine bt (To (s:={ s with heap:=m,toks:=tk }) t ?_)
 have v:m.DictOf knd s.heap.objs.size []:=by
  obtain⟨o,B,ep,c,r⟩:=d;exact⟨o,B,ep,y _ _ c,r⟩
 have f:s.heap.objs.size < m.objs.size:=by
  obtain⟨o,B,ep,c,r⟩:=v;exact fj c
 have C:∀b o,s.heap.get? b=some o->m.get? b=some o:=λb o e=>y b o (el _ e)
 refine eR ⟨WZ qf _,?_⟩;refine K1 (knd:=knd) (items:=items) (more:=more) (by simp[hh]) (gW (TN q f)) (gW f) (US q) J L items.size 0 _ (by lia) (qh _) ⟨_,hB _ rfl,rfl,rfl⟩ (t.push _) ?_ ?_ ?_ _ _
 ·simp only[X6];exact v.push _
 ·intro j u n N D;obtain⟨a,k,p⟩:=M j u n N D;have G:a < s.heap.objs.size:=let ⟨_,c,_⟩:=p.tup;fj c
  refine⟨a,k,⟨p.at_,?_,p.key⟩,gW (TN G f),gW G⟩;obtain⟨o,c,r⟩:=p.tup;exact⟨o,el _ (C _ _ c),r⟩
 ·intro h' H I O;refine⟨rfl,h h' H I λb o e=>O b o ?_ ?_ (el _ (C _ _ e))⟩
  ·exact gW (TN (fj e) f)
  ·exact gW (fj e)
end
end PySem
end
section
namespace L2
open PySem PySem.Spec PyProof.Rows
section
variable {X:Cx}{pins:List (cW×tm)}{σ:St}{H:Hp}{s:cA}
noncomputable def kY (K:gj) (H:Hp) (r:V) (b:Key×V):Prop:=∃a,r=.ref a/\bb K H a [kV b.1,b.2]
theorem CS (I:Inv X pins σ H s):∀{c:List V}{its:List b8}{kvs:List (Key×V)},aC c its->T4 (kY X.K H) c kvs->∃more:List (Key×b8),KV kvs more/\T4 (λu d=>∃a k,w8 (cG X.prog X.w) s.heap u d a k) its more
 | _,_,_,.nil,.nil=>⟨[],.nil,.nil⟩
 | _,_,_,.cons (b:=u) e f,.cons (b:=d) g h=>by
  obtain⟨more,i,j⟩:=CS I f h;obtain⟨a,rfl,l⟩:=g;cases e;obtain⟨its',m,tup,_⟩:=I.tuple l;cases m with
  | cons n o =>
   cases o with
   | cons p q =>
    cases q;rename_i k v;exact⟨(d.1,v)::more,.cons ⟨rfl,p⟩ i,.cons ⟨a,k,rfl,by simpa using tup,mw n⟩ j⟩
theorem vf:∀{l₁:List c}{l₂:List d},T4 F l₁ l₂->∀(j:Nat) a b,l₁[j]? = some a->l₂[j]? = some b->F a b
 | _,_,.nil,j,a,b,h,_=>by simp at h
 | _,_,.cons e t,0,a,b,h,h'=>by
  simp at h h';subst h h';exact e
 | _,_,.cons e t,j + 1,a,b,h,h'=>vf t j a b (by simpa using h) (by simpa using h')
theorem n8:∀{l₁:List a}{l₂:List b},T4 F l₁ l₂->l₁.length=l₂.length
 | _,_,.nil=>rfl
 | _,_,.cons _ t=>by simp only[fk,fk,n8 t]
noncomputable def B4 (K:gj):List V->Hp->VK->Prop:=λxs H Q=>∃p a kvs,xs=[.ref p]/\Rd H p (.lst a)/\T4 (kY K H) a kvs/\∀q,H q=none->Q (.ref q) (upd H q (.dK (jL [] kvs)))
def Ko (f:X.calm=true):bO X (.type "dict") (B4 X.K):=by
 intro pins s σ H xs us Q I r h;obtain⟨p,rows,kvs,rfl,g,c,q⟩:=h;obtain⟨u,rfl,i⟩:=r.one;cases i;obtain⟨z,its,n,k,d⟩:=g.ok I.ai;obtain⟨more,b,pm⟩:=CS I k c;have l:=n8 pm;have e2:=n8 b;have e3:=n8 c;have m:(jL [] kvs).length<=sizeLine:=by
  have:=AZ kvs [];simp only[wm] at this;omega
 refine NP (knd:=cG X.prog X.w) (items:=its.toArray) (more:=more) (I.ok.hd f) ⟨_,d,rfl,n,rfl⟩ (λo e=>by rw[d] at e;cases e;rfl) (by simp[l]) (by omega) (λj u b t v=>vf pm j u b (by simpa using t) v) λh' tk dd kp=>?_
 exact⟨.ref s.heap.objs.size,_,I.laid (a:=s.heap.objs.size) (o:=.dK (jL [] kvs)) (t':=tk) kp (eS _) (uO m (beq_eq_false_iff_ne.mpr (Ne.symm (gW I.tE))) (b.merge .nil) dd),rfl,q _ (I.ai.fresh (eS _))⟩
noncomputable def Ip (te:TE):TI:=fun σ H R=>te σ H λv a=>∃d o kvs,v=.ref d/\a d=some (.ba o (.dK kvs))/\R (ym d o kvs) a
def K0 (m:PE X e te):PI X l e (Ip te):=by
 intro pins s σ H R I h;refine aB (m pins s σ H _ I h) λv a ⟨y,H1,c,n,p⟩=>?_
 obtain⟨d,o,kvs,rfl,hd,q⟩:=p;cases n;obtain⟨i,z,lo,vs,r,j⟩:=c.ai d _ hd;obtain⟨ep,dat⟩:=j.dictAt;obtain⟨o',t,f,g⟩:=id dat;rw[i] at f;cases f;have u:∀h:m3,h.get? d=some o->h.DictAt (cG X.prog X.w) d vs ep:=λh e=>⟨o,t,e,g⟩
 have k:d < a.heap.objs.size:=fj i;refine wpAny_pyIter_dict lo dat ⟨a.heap.objs.size,[a.heap.objs.size],_,_,_,rfl,c.kept (t':=a.toks) λb o e=>el _ e,JD r (gW k) u,⟨_,hB _ rfl,rfl,rfl⟩,λb x=>?_,q⟩
 rw[show b=a.heap.objs.size by simpa using x]
 exact c.kB (eS _) (c.ai.fresh (eS _))
end
end L2
namespace DV
open PySem PySem.Spec PyProof.Rows L2
noncomputable def jl:List Dat->Option (List (eT×Dat))
 | []=>some []
 | .tup [.str k,d]::r=>(jl r).map λa=>(k,d)::a
 | _=>none
noncomputable def qG:List Dat->Option Res
 | [.bN a]=>some (.own (.bN a))
 | [.lst ds]=>(jl ds).bind λa=>if (a.map (·.1)).Nodup then some (.own (.bN a)) else none
 | _=>none
theorem yK {K:gj}{H:Hp}:∀{ds:List Dat}{vs:List V}{b:List (eT×Dat)},jl ds=some b->ay K H ds vs->∃kvs,bH K H b kvs/\T4 (kY K H) vs kvs
 | [],_,_,e,r=>by
  cases e;cases (show _=[] from r)
  exact⟨[],rfl,.nil⟩
 | d::ds,_,_,e,r=>by
  unfold jl at e;split at e
  ·rename_i h;cases h
  ·rename_i k d' r' h;cases h;cases c:jl ds with
   | none=>rw[c] at e;cases e
   | some b =>
    rw[c] at e;cases e;obtain⟨v,vr,rfl,⟨a,ws,rfl,g,rs⟩,i⟩:=r;obtain⟨kvs,j,l⟩:=yK c i;obtain⟨v1,r1,rfl,m,f,r2,rfl,n,o⟩:=rs;cases m;cases (show _=[] from o)
    exact⟨(nE k,f)::kvs,⟨f,kvs,rfl,n,j⟩,.cons ⟨a,rfl,g⟩ l⟩
  ·cases e
theorem kY.mono {K:gj}{H b:Hp}(s:af H b) {vs:List V}{kvs:List (Key×V)}(h:T4 (kY K H) vs kvs):T4 (kY K b) vs kvs:=Paired.nC h λ_ _ ⟨a,e,q⟩=>⟨a,e,bb.mono s q⟩
section
variable {X:Cx}{pos:qe}
def EJ:CD X (λxs H Q=>(λxs H Q=>∃a kvs,xs=[.ref a]/\Rd H a (.dK kvs)/\∀p,H p=none->Q (.ref p) (upd H p (.dK kvs))) xs H Q\/B4 X.K xs H Q) qG:=by
 intro i j Z l H d vs ds o Q e S r k;unfold qG at e;split at e
 ·rename_i f;exact .inl (OQ i j Z l H d vs [.bN f] o Q e S r k)
 ·rename_i ds;cases c:jl ds with
  | none=>rw[c] at e;cases e
  | some f =>
   rw[c] at e;simp only[a5] at e;split at e
   ·rename_i nd;cases e;obtain⟨v,vr,rfl,⟨p,m,rfl,n,rs⟩,s⟩:=r;cases s;obtain⟨kvs,g,t⟩:=yK c rs;have u:(kvs.map (·.1)).Nodup:=by
     rw[rW g];exact hF.mpr (nd.imp λh z=>h (Sum.inr.inj z))
    refine .inr ⟨p,m,kvs,rfl,Rd.mono S.sub n,kY.mono S.sub t,λq b=>?_⟩
    simp only[Bz kvs [] (by simpa using u),List.nil_append]
    exact k (.ref q) _ d (S.made b) (af.refl _) ⟨q,rfl,⟨kvs,bu,g,S.dy b⟩,(S.bM b).2,(S.bM b).1,S.d6 b⟩
   ·cases e
 ·cases e
def KJ (a:X.calm=true)(b:Gl X "dict")(c:X.mg "dict"=none)(d:bK X e [])(f:DA X [e] fa):DE X (.Call (.Name "dict" p) [e] [] pos) (cJ qG fa):=rA (bO.or Dh (Ko a)) EJ b c (by decide +kernel) f (by decide) (by decide) d rfl
noncomputable def yc (i:Nat):IF:=λZ=>match Z[i]? with
 | some (.dat (.dE a))=>some (a.map λk=>.str k.1,Z)
 | _=>none
def E1 (hx:jZ x)(u:X.N.findIdx? (· == x)=some i)(w:cc X.env.scope x)(hd:bJ x)(l:cM x):dn X s (.Name x t) (yc i):=by
 refine⟨_,K0 (eC (dJ u) w hd l),λH0 ps Z σ H Hi items Z' R b S k=>?_⟩
 unfold yc at b;split at b
 ·rename_i m e;cases b;obtain⟨v,z,p,o,kvs,rfl,g,h⟩:=S.dat i _ e;refine⟨_,z,p,o,kvs,rfl,S.sub _ _ g,k _ _ _ S (af.refl _) λj H2 n=>⟨λd c=>?_,λf=>⟨n _ _ g,?_⟩⟩⟩
  ·have A:j < m.length:=by have:=(bc.mp c).1;simpa using this
   have f:=bH.length h;refine⟨⟨n _ _ g,by rw[f];exact A⟩,λv H3 B=>.inl ?_⟩
   obtain⟨rfl,C,xx,D,rfl⟩:=B;refine⟨rfl,?_⟩;have a:(kvs.map (·.1))[j]? = some C:=by rw[cn,D];rfl
   simp only[rW h,cn,cn] at a;rw[cn] at c;cases q:m[j]? with
   | none=>rw[q] at a;cases a
   | some y =>
    rw[q] at a c;cases a;cases c;rfl
  ·have r:=bH.length h;rw[a8] at f;rw[r];exact f
 ·cases b
end
end DV
end
section
namespace PySem
open Sem (wp)
structure nA (h:m3) (d:cW) (es:Array T9) (ep:Nat):Prop where
 ok:∃o,h.get? d=some o/\o.ExactDict/\o.data=.dict es ep
section
variable {prog:hJ}{w:kq}{A:pl}{E:b8->cA->Prop}{s:cA}
def nA.ty (h:nA s.heap d c ep):s.TypeIs (.ref d) "dict":=let ⟨o,a,b,_⟩:=h.ok;⟨o,a,b.1⟩
def IE (hd:(d == zc)=false)(r:nA s.heap d a ep)(q:Q (.ref s.heap.objs.size) { s with heap:=s.heap.push { cls:=.type "dict_keyiterator",data:=.fields #[.ref d,.int 0 0,.int a.size 0,.int ep 0] } }):hE (hR prog w) A (Ya (.ref d)) Q E s:=by
 have ty:=r.ty;obtain⟨o,b,e2,c⟩:=r.ok;refine wpAny_pyIter_slot ty Yj (ql Yj ty F.entry_dict_iter ?z (F.args_dict_iter_1 _));unfold T6.«dict.__iter__» YY
 refine bt (bt (XH ty ?B));refine (show hE _ _ (pure (ti d)) _ _ s from eR ?C)
 refine (show hE _ _ (VS d >>= _) _ _ s from ?D)
 unfold VS;rw[if_neg (λz=>by rw[hd] at z;cases z)]
 refine bt (eR (bt (UN b c (bt (Wn b c (bt (sH (eR ⟨_,rfl,"dict_keyiterator",_,⟨_,hB _ rfl,rfl⟩,sq.lookup,?G⟩))))))));simpa[Xp] using q
def LM (hit:s.heap.IsKeyIter it d i a.size ep)(r:nA s.heap d a ep)(f:i < a.size)(q:∀h',h'.IsKeyIter it d (i + 1) a.size ep->UO it s.heap h'->Q (some a[i].key) { s with heap:=h' }):hE (hR prog w) A (Vc (.ref it)) Q E s:=by
 have ty:=hit.typeIs;obtain⟨x,e,j,b⟩:=id hit;obtain⟨o,g,e2,h⟩:=r.ok;have own:UP "dict_keyiterator"=false:=by decide
 unfold Vc;refine bt (Zl (TQ (name:=ec "__next__") ty sq (ql sq ty V9 ?z (V4 _))));refine bt (eR (bt (bt ?D)))
 first | refine bt (KX ty (eR ?B)) | refine bt (TC ty (eR ?B))
 refine bt (Y7 e b ?G);dsimp only[own,mA,if_false];refine (show hE _ _ (if (ti d == n6)=true then _ else _) _ _ s from ?H)
 rw[if_neg (λz:(ti d == n6)=true=>nomatch z)]
 refine bt (eR (bt (UN g h ?I)));rw[if_neg (by simp)]
 refine bt (eR (bt (Wn g h ?J)));rw[if_neg (by simp)]
 refine eR ?K;simp only[show ¬((i:Int) < 0) from by lia,if_false,VH,j' f]
 refine bt ?L
 first | refine bt (KX ty (eR ?C)) | refine bt (TC ty (eR ?C))
 refine bt (XI ty ?M);refine (show hE _ _ (setField (.ref it) 1 (Xp ((i:Int) + 1)) >>= _) _ _ s from bt (Y6 e b (by simp) ?N))
 have c:(s.heap.update it (Yw (·.setIfInBounds 1 (Xp ((i:Int) + 1))))).IsKeyIter it d (i + 1) a.size ep:=⟨_,Wz _ e (Obj.isFreed_of_fields (Xu b _)),(Obj.cls_mapFields ..).trans j,by rw[Xu b];simp[Xp]⟩
 refine bt (nL (bt (XI (s:={ s with heap:=s.heap.update it (Yw (·.setIfInBounds 1 (Xp ((i:Int) + 1)))) }) c.typeIs ?O)))
 exact (show hE _ _ (pure a[i].key) _ _ _ from eR (eR ⟨_,rfl,eR (q _ c (V2 ..))⟩))
def F4 (hh:A.handled=none)(hit:s.heap.IsKeyIter it d i c.size ep)(r:nA s.heap d c ep)(e:c.size<=i)(q:∀h',Heap.ExtBut it s.heap h'->Q none { s with heap:=h' }):hE (hR prog w) A (Vc (.ref it)) Q E s:=by
 have ty:=hit.typeIs;obtain⟨x,f,x2,g⟩:=id hit;obtain⟨o,h,e2,j⟩:=r.ok;have own:UP "dict_keyiterator"=false:=by decide
 unfold Vc;refine bt (Zl (TQ (name:=ec "__next__") ty sq (ql sq ty V9 ?z (V4 _))));refine bt (eR (bt (bt ?D)))
 first | refine bt (KX ty (eR ?B)) | refine bt (TC ty (eR ?B))
 refine bt (Y7 f g ?G);dsimp only[own,mA,if_false];refine (show hE _ _ (if (ti d == n6)=true then _ else _) _ _ s from ?H)
 rw[if_neg (λz:(ti d == n6)=true=>nomatch z)]
 refine bt (eR (bt (UN h j ?I)));rw[if_neg (by simp)]
 refine bt (eR (bt (Wn h j ?J)));rw[if_neg (by simp)]
 refine eR ?K;simp only[show ¬((i:Int) < 0) from by lia,if_false,VH,UM e]
 refine bt ?L
 first | refine bt (KX ty (eR ?C)) | refine bt (TC ty (eR ?C))
 refine (show hE _ _ (setField (.ref it) 0 .none >>= _) _ _ s from bt (Y6 f g (by simp) ?M))
 refine (show hE _ _ (newExc (.type "StopIteration") [] >>= _) _ _ _ from bt ?N)
 simp only[newExc,newTuple];refine bt (sH (bt (m:=Y9 _ _) (wpAny_of_eq (a:=n6) (by first | rfl | (simp only[Y9];rfl)) (sH ?O (by size_fits)))) (by size_fits))
 dsimp only[raiseNew];refine bt (wpAny_handled ?P);rw[show A.in1.handled=none from hh]
 refine bt (eR (wpAny_throw ?R));exact bt (wpAny_isInstance (T:="StopIteration") (b:=true) ⟨_,hB _ rfl,rfl⟩ isSubtype_stop (eR (q _ (((V2 ..).extBut.push _).push _))))
def IP (hd:(d == zc)=false)(r:nA s.heap d a ep)(hz:(a.size:Int) < 2 ^ 63)(q:∀t t',Q (.int a.size t) { s with toks:=t' }):hE (hR prog w) A (call (.builtin "len") [.ref d]) Q E s:=by
 have ty:=r.ty;obtain⟨o,b,e2,c⟩:=r.ok;refine Tp kind_len plain_len entry_len (args_len1 _) ?z;unfold T6.«len»
 refine bt (m:=oneArg "len" _) (eR (bt (m:=callSpecial? (.ref d) (ec "__len__")) (TQ (name:=ec "__len__") ty Yz (ql Yz ty F.entry_dict_len ?B (F.args_dict_len_1 _)))));refine (show hE _ _ (dictSize d >>= _) _ _ s from ?C)
 unfold dictSize;refine bt (bt (UN b c (eR ?D)));refine (show hE _ _ (YX d >>= _) _ _ s from bt (wpAny_pendingCount_other hd (wpAny_ret_mkInt ?G)))
 rw[show ((a.size:Int) + ((0:Nat):Int))=(a.size:Int) from by lia]
 refine bt (nL (eR (bt (wpAny_letGo ?H))));refine (show hE _ _ (if ((a.size:Nat):Int) < 0 then _ else _) _ _ _ from ?I)
 rw[if_neg (by lia)]
 refine (show hE _ _ (if ((a.size:Nat):Int) ≥ 2 ^ 63 then _ else _) _ _ _ from ?J)
 rw[if_neg (by lia)]
 exact bt (wpAny_mkInt (eR ⟨_,rfl,q _ _⟩))
end
end PySem
end
section
namespace L2
open PySem PySem.Spec PyProof.Rows
noncomputable def wC (d:cW) (o:tm) (kvs:List (List Key×V)) (bs:List cW):It:=⟨λi H=>H d=some (.ba o (.dT kvs))/\i < kvs.length,λi H v a=>a=H/\∃b,bs[i]? = some b/\v=.ref b,λi H=>H d=some (.ba o (.dT kvs))/\kvs.length<=i⟩
noncomputable def kR (H:Hp) (kvs:List (List Key×V)) (bs:List cW):Prop:=T4 (λa b=>H b=some (.tup (a.1.map kV))) kvs bs
noncomputable def KeysIn (a:Array T9) (bs:List cW):Prop:=∀(i:Nat) (hi:i < a.size),∃b,bs[i]? = some b/\a[i].key=.ref b
section
variable {P:hJ}{w:kq}{H:Hp}{h:m3}{d:cW}
def sv (x:cB P w H h d (.dT kvs)):∃a ep o bs,h.get? d=some o/\o.ExactDict/\o.data=.dict a ep/\a.size=kvs.length/\kR H kvs bs/\KeysIn a bs:=by
 obtain⟨_,_,xs,b,o,a,ep,f,g,j,c,h5⟩:=x;have k:a.size=xs.length:=by
  have:=congrArg List.length c;simpa using this
 have l:∀{kvs:List (List Key×V)}{xs:List (List Key×cW×b8)},T4 (λ(p:List Key×V) (q:List Key×cW×b8)=>p.1=q.1/\H q.2.1=some (.tup (p.1.map kV))/\RelV p.2 q.2.2) kvs xs->kR H kvs (xs.map λx=>x.2.1):=λb=>by
  induction b with
  | nil=>exact .nil
  | cons h _ m=>exact .cons h.2.1 m
 refine⟨a,ep,o,xs.map λx=>x.2.1,f,g,j,by simp only[k,n8 b],l b,λi n=>?_⟩
 have hx:xs[i]? = some xs[i]:=cm (by omega)
 have e:a.toList[i]? = some a[i]:=by simp[n]
 simp only[c,cn,hx] at e;refine⟨xs[i].2.1,by rw[cn,hx];rfl,?_⟩
 rw[<- Option.some.inj e];rfl
end
def Mk {P:hJ}{w:kq}{K:gj}{S:gs}{d it:cW}{o:tm}{kvs:List (List Key×V)}{n ep:Nat}{l:Array T9}{bs:List cW}(J:l.size=n) (hne:d≠it) (m:o.data=.dict l ep) (a:KeysIn l bs) :
  Turn P w K S (wC d o kvs bs) [it] it (λi h=>h.IsKeyIter it d i n ep) where
 mem:=by simp
 obj:=λi h st b a=>by
  have e:b=it:=by simpa using a
  subst e;obtain⟨o,e,c,d⟩:=st;exact⟨o,e,λv z=>by rw[d] at z;cases z⟩
 keep:=λi h h' st k=>by
  obtain⟨o,e,c,d⟩:=st;exact⟨o,k it (by simp) o e,c,d⟩
 item:=by
  intro X t hw u L i f s M H E I p st x;subst t hw u J;obtain⟨y,A,T,B,C,D⟩:=p it (by simp)
  obtain⟨hd,U⟩:=x;obtain⟨g,ok⟩:=I.ai d _ hd;obtain⟨N,O,Q,R,j,F,g3,Y,_,_⟩:=sv ok;rw[g] at j;cases j;rw[m] at g3;cases g3;have q:i < l.size:=by omega
  refine LM st ⟨o,g,F,m⟩ q λh' r Z=>?_
  have I1:Inv X f M H { s with heap:=h',toks:=s.toks }:=I.turned (λb o a e=>(Z.2 b a).trans e) y A B C D
  obtain⟨b,tb,G⟩:=a i q;obtain⟨Q,e,c,dd⟩:=id r;exact⟨_,rfl,mi (s:={ s with heap:=h',toks:=s.toks }) e c dd (by decide) ⟨.ref b,H,I1,by rw[G];rfl,⟨rfl,b,tb,rfl⟩,r,λb a=>(p b a).1⟩⟩
 done:=by
  intro X t hw u L i f s M H E I p st x;subst t hw u J;obtain⟨y,A,T,B,C,D⟩:=p it (by simp)
  obtain⟨hd,U⟩:=x;obtain⟨g,ok⟩:=I.ai d _ hd;obtain⟨N,O,Q,R,j,F,g3,Y,_,_⟩:=sv ok;rw[g] at j;cases j;rw[m] at g3;cases g3;exact F4 (I.ok.hd L) st ⟨o,g,F,m⟩ (by lia) λh' G=>⟨rfl,I.turned (t':=s.toks) (λb o a e=>G b o a e) y A B C D⟩
 self:=λ_ _ _ _ _ st h=>XR st h
section
variable {X:Cx}
def Inv.Ik (I:Inv X f h H s)(e:H d=some (.dT kvs))(j:s.heap.get? d=some o):Inv X f h (upd H d (.ba o (.dT kvs))) s:=by
  have g:∀b u,H b=some u->u≠.dT kvs->b≠d:=λb u q z y=>by rw[y,e] at q;cases q;exact z rfl
  have un:Un X.fs [] H (upd H d (.ba o (.dT kvs))) s.heap s.heap :=
    ⟨λb a q _ _ _=>q,λb a q _ _ _=>⟨a.slots,q⟩,λb a q n _=>by rw[aA (λz=>by rw[z,e] at n;cases n)];exact n,λb a q _=>⟨a,q⟩,
     λb xs q=>by rw[aA (g b _ q (by intro z;cases z))];exact q,λb a u q=>by rw[aA (g b _ q (by intro z;cases z))];exact q,λb ps q=>⟨#[],by rw[aA (g b _ q (by intro z;cases z)),q];simp⟩⟩
  have st:∀b u,cB X.prog X.w H s.heap b u->cB X.prog X.w (upd H d (.ba o (.dT kvs))) s.heap b u:=λb u x =>
    x.ij (λc v _ q=>q) (λc q=>by rw[aA (g c _ q (by intro z;cases z))];exact q) λc xs q=>by rw[aA (g c _ q (by intro z;cases z))];exact q
  have ai:bS X.prog X.w (upd H d (.ba o (.dT kvs))) s.heap:=λb u q=>by
    by_cases i:b=d
    · subst i
      rw[bu] at q;cases q;exact⟨j,st _ _ (I.ai _ _ e)⟩
    · rw[aA i] at q
      exact st _ _ (I.ai b u q)
  exact I.un (t':=s.toks) un ai
noncomputable def D7 (te:TE):TI:=λb H R=>te b H λv a=>∃d kvs,v=.ref d/\a d=some (.dT kvs)/\∀o bs,kR a kvs bs->R (wC d o kvs bs) (upd a d (.ba o (.dT kvs)))
def A7 (l:PE X e te):PI X k e (D7 te):=by
 intro c s m H R I h;refine aB (l c s m H _ I h) λv a ⟨y,H1,i,n,p⟩=>?_
 obtain⟨d,kvs,rfl,hd,q⟩:=p;cases n;have ok:=i.ai d _ hd;have lo:=ok.2.1;obtain⟨es,ep,o,bs,f,r,g3,g4,t,u⟩:=sv ok;have j:d < a.heap.objs.size:=fj f;have g:=i.Ik hd f;refine IE lo ⟨o,f,r,g3⟩ ⟨a.heap.objs.size,[a.heap.objs.size],_,_,_,rfl,g.kept (t':=a.toks) λb o e=>el _ e,Mk rfl (gW j) g3 u,⟨_,hB _ rfl,rfl,rfl⟩,λb w=>?_,q o bs t⟩
 simp only[show b=a.heap.objs.size by simpa using w]
 exact g.kB (eS _) (g.ai.fresh (eS _))
def Ds:bO X (.builtin "len") (λxs H Q=>∃a kvs,xs=[V.ref a]/\Rd H a (.dT kvs)/\Q (.int kvs.length) H):=by
 intro pins s σ H xs us Q I r h;obtain⟨a,kvs,rfl,c,q⟩:=h;obtain⟨u,rfl,d⟩:=vals1 r;cases d;have ok:=wg I.ai c;have lo:=ok.2.1;have z:=ok.1;obtain⟨es,ep,o,bs,e,f,g3,b,g5,g6⟩:=sv ok;refine IP lo ⟨o,e,f,g3⟩ (by rw[b];simp only[qo] at z;lia) λt t'=>?_
 rw[b];exact⟨.int kvs.length,H,I.tok _,⟨t,rfl⟩,q⟩
end
end L2
end
section
namespace DV
open PySem PySem.Spec PyProof.Rows L2
noncomputable abbrev fD:=List (List eT×Dat)
noncomputable def eQ (a:fD) (k:List eT):Option Dat:=(a.find? λp=>decide (p.1=k)).map (·.2)
noncomputable def nQ (a:fD) (k:List eT) (d:Dat):fD:=if (eQ a k).isSome=true then a.map (λp=>if p.1=k then (p.1,d) else p) else a++[(k,d)]
noncomputable def kT (k:List eT):List Key:=k.map nE
def xn:kT a=kT b ↔ a=b:=by
 unfold kT;constructor
 ·intro h;induction a generalizing b with
  | nil=>cases b with
   | nil=>rfl
   | cons _ _=>cases h
  | cons x a c=>cases b with
   | nil=>cases h
   | cons y b =>
    simp only[gi,gi] at h;obtain⟨d,e⟩:=List.cons.inj h;rw[Sum.inr.inj d,c e]
 ·intro h;rw[h]
def sG (k):(kT k).map kV=k.map V.str:=by
 unfold kT;rw[hA];rfl
section
variable {K:gj}{H:Hp}
theorem bP.length:∀{a:fD}{kvs:List (List Key×V)},bP K H a kvs->kvs.length=a.length
 | [],_,h=>by rw[show _=[] from h];rfl
 | (_,_)::_,_,⟨v,r,e,q,t⟩=>by simp only[e,fk,fk,bP.length t]
theorem bP.find:∀{c:fD}{kvs:List (List Key×V)}(k:List eT),bP K H c kvs->(∀d,eQ c k=some d->∃v,eB kvs (kT k)=some v/\Rep K H d v)/\(eQ c k=none->eB kvs (kT k)=none)
 | [],_,k,h=>by
  rw[show _=[] from h]
  exact⟨λd z=>by simp[eQ] at z,λ_=>rfl⟩
 | (f,d')::c,_,k,⟨v,r,e,q,t⟩=>by
  rw[show _=(kT f,v)::r from e]
  obtain⟨a,b⟩:=bP.find k t
  by_cases g:f=k
  ·subst g;have i:eQ ((f,d')::c) f=some d':=by simp[eQ]
   rw[i,oi rfl];exact⟨λd z=>⟨v,rfl,by cases z;exact q⟩,λz=>by cases z⟩
  ·have i:eQ ((f,d')::c) k=eQ c k:=by simp[eQ,g]
   rw[i,o8 (λz=>g (xn.mp z))]
   exact⟨a,b⟩
theorem bP.has (k:List eT)(h:bP K H c kvs):(eB kvs (kT k)).isSome=(eQ c k).isSome:=by
 obtain⟨a,b⟩:=h.find k;cases e:eQ c k with
 | none=>rw[b e];rfl
 | some d=>obtain⟨v,f,_⟩:=a d e;rw[f];rfl
theorem bP.ic:∀{a:fD}{kvs:List (List Key×V)}(k:List eT) {d:Dat}{v:V},bP K H a kvs->Rep K H d v->bP K H (a.map λp=>if p.1=k then (p.1,d) else p) (kvs.map λp=>if p.1=kT k then (p.1,v) else p)
 | [],_,k,_,_,h,_=>by simp only[show _=[] from h];exact rfl
 | (b,d')::a,_,k,d,v,⟨w,r,e,q,t⟩,c=>by
  rw[show _=(kT b,w)::r from e,gi,gi]
  by_cases f:b=k
  ·subst f;rw[if_pos rfl,if_pos rfl];exact⟨v,_,rfl,c,bP.ic b t c⟩
  ·rw[if_neg f,if_neg (λz=>f (xn.mp z))]
   exact⟨w,_,rfl,q,bP.ic k t c⟩
theorem bP.snoc:∀{b:fD}{kvs:List (List Key×V)}(k:List eT) {d:Dat}{v:V},bP K H b kvs->Rep K H d v->bP K H (b++[(k,d)]) (kvs++[(kT k,v)])
 | [],_,k,_,v,h,a=>by rw[show _=[] from h];exact⟨v,[],rfl,a,rfl⟩
 | (_,_)::_,_,k,_,_,⟨w,r,e,q,t⟩,a=>⟨w,r++_,by rw[e];rfl,q,bP.snoc k t a⟩
def bP.put (k:List eT)(h:bP K H a kvs)(b:Rep K H d v):bP K H (nQ a k d) (putK kvs (kT k) v):=by
 unfold nQ putK;rw[qZ,h.has k];split
 ·exact h.ic k b
 ·exact h.snoc k b
theorem y8:∀{a:fD}{kvs:List (List Key×V)},bP K H a kvs->kvs.map (·.1)=a.map λk=>kT k.1
 | [],_,h=>by rw[show _=[] from h];rfl
 | (_,_)::_,_,⟨v,r,e,q,t⟩=>by simp only[e,gi,gi,y8 t];rfl
end
noncomputable abbrev UF:=DS->Option (List eT×DS)
noncomputable def kF (X:Cx) (e:gs) (f:UF):Prop:=∃t,PE X e t/\∀(c:Hp×Hp) (d:Nat->Option cW) (Z:DS) (b:St) (H g:Hp) (l:List eT) (h:DS) (Q:VK),f Z=some (l,h)->SR X.K c d Z b H g ->
 (∀p i a,SR X.K c d h b i a->af g a->a p=some (.tup ((kT l).map kV))->Q (.ref p) i)->t b H Q
noncomputable def wU (f:AF):UF:=λZ=>(f Z).bind λp=>if p.1.length<=bg then (cH p.1).map λl=>(l,p.2) else none
noncomputable def vb (f:AF):UF:=λZ=>(f Z).bind λp=>match p.1 with
 | [.lst ds]=>(cH ds).map λl=>(l,p.2)
 | _=>none
section
variable {X:Cx}{pos:qe}
theorem Jr {g}(h:DA X c f):kF X (.Tuple c g pos) (wU f):=by
 obtain⟨t,p,q⟩:=h;refine⟨_,zP p,λi j Z m H n l Z' Q e S k=>?_⟩
 unfold wU at e;cases a:f Z with
 | none=>rw[a] at e;cases e
 | some dp =>
  obtain⟨ds,Z1⟩:=dp;rw[a] at e;dsimp only[a5] at e;split at e
  ·rename_i r;cases b:cH ds with
   | none=>rw[b] at e;cases e
   | some l' =>
    rw[b] at e;cases e;refine q i j Z m H n ds _ _ a S λvs H1 Hi1 s u d=>⟨by rw[d.length];exact r,λp v=>?_⟩
    obtain⟨w,x⟩:=s.laid (o:=.tup vs) v;refine k p _ _ w (u.trans x) ?_;rw[bu,jP b d,sG]
  ·cases e
theorem OS (i:Gl X "tuple")(j:X.mg "tuple"=none)(m:bK X e [])(n:DA X [e] fa):kF X (.Call (.Name "tuple" p) [e] [] pos) (vb fa):=by
 obtain⟨t,r,q⟩:=n;refine⟨_,sN F6 i j (by decide +kernel) r (by decide) (by decide) m rfl,λs u Z w H x l Z' Q b S k=>?_⟩
 unfold vb at b;cases c:fa Z with
 | none=>rw[c] at b;cases b
 | some dp =>
  obtain⟨ds,Z1⟩:=dp;rw[c] at b;simp only[a5] at b;split at b
  ·rename_i f;cases d:cH f with
   | none=>rw[d] at b;cases b
   | some l' =>
    rw[d] at b;cases b;refine q s u Z w H x _ _ _ c S λvs H1 Hi1 g y z=>?_
    obtain⟨v,vr,rfl,⟨a,h,rfl,A,rs⟩,B⟩:=z;cases B;refine⟨a,h,rfl,.inl ⟨.inl (Rd.mono g.sub A),λp C=>?_⟩⟩
    obtain⟨D,E⟩:=g.laid (o:=.tup h) C;refine k p _ _ D (y.trans E) ?_;rw[bu,jP d rs,sG]
  ·cases b
noncomputable def B6:EF:=λZ=>some (.own (.aY false []),Z)
def Gz:DE X (.Dict [] [] pos) B6:=by
 refine⟨_,Du,λH0 ps Z σ H b r Z' Q c S k=>?_⟩
 cases c;intro l a;exact k (.ref l) _ b (S.made a) (af.refl _) ⟨l,rfl,⟨rfl,_,bu,rfl,S.dy a⟩,(S.bM a).2,(S.bM a).1,S.d6 a⟩
noncomputable def pd (i:Nat) (b:UF) (f:DF):SF:=λZ=>(f Z).bind λp=>((p.2[i]?).bind DV.ownOf).bind λ_=>(b p.2).bind λq=>((q.2[i]?).bind DV.ownOf).bind λs=>match s.2 with
 | .aY _ a=>if a.length < bg then some (.next (q.2.set i (kindAt s.1 (.aY false (nQ a q.1 p.1))))) else none
 | _=>none
theorem IM (i:Nat)(P:X.A.units + 1 < vi)(Q:X.N[i]? = some x)(R:cc X.env.scope x)(h:DD X e f)(T:kF X l m)(hd:bJ x:=by decide)(F:cM x:=by decide)(U:r0 e (some (.Subscript (.Name x E) l pt)) pos.line X.env=pure false:=by rfl):cp X (.Assign [.Subscript (.Name x E) l pt] e pos) (pd i m f):=by
 obtain⟨t,p,q⟩:=h;obtain⟨tk,V,W⟩:=T;refine⟨_,yP P (eC Q R hd F) V p U,λG I Z r H Y o D e S k=>?_⟩
 unfold pd at e;cases s:f Z with
 | none=>simp only[s] at e;cases e
 | some dp =>
  obtain⟨d,Z1⟩:=dp;simp only[s] at e;dsimp only[a5] at e;cases u:(Z1[i]?).bind DV.ownOf with
  | none=>simp only[u] at e;cases e
  | some s0 =>
   obtain⟨b0,c0⟩:=s0;rw[u] at e;simp only[a5] at e;cases w:m Z1 with
   | none=>rw[w] at e;cases e
   | some kp =>
    obtain⟨n,Z2⟩:=kp;rw[w] at e;dsimp only[a5] at e;cases g:(Z2[i]?).bind DV.ownOf with
    | none=>rw[g] at e;cases e
    | some j =>
     obtain⟨io,c⟩:=j;rw[g] at e;dsimp only[a5] at e;split at e
     ·rename_i fz ks;split at e
      ·rename_i hz;cases e;refine q G I Z r H Y d Z1 _ s S λv H1 J K s1 r1=>?_
       obtain⟨a,B,_⟩:=K.at (jF u);refine⟨.ref a,B,W G I Z1 r H1 J _ Z2 _ w K λy H2 L C j r2=>?_⟩
       obtain⟨b,M,ob⟩:=C.at (jF g);rw[B] at M;cases M;obtain⟨z,kvs,h1,O,h3⟩:=ob;refine⟨a,_,rfl,j6.t h1 (C.sub _ _ r2) (by rw[bP.length O];exact hz),?_⟩
       exact k r _ L (C.write (jF g) B ⟨rfl,_,bu,bP.put n O (Rep.mono j r1),h3⟩) (s1.trans j)
      ·cases e
     ·cases e
end
section
variable {K:gj}{H0:Hp×Hp}{H Hi:Hp}{ps:Nat->Option cW}{Z:DS}{σ:St}
theorem SR.share (S:SR K H0 ps Z σ H Hi)(e:H b=some (.tup vs)):∃f,SR K H0 ps Z σ H f/\af Hi f/\f b=some (.tup vs)/\∀q u,f q=some u->Hi q=some u\/∃vs,u=.tup vs:=by
 cases z:Hi b with
 | some u =>
  have:=S.sub _ _ z;rw[e] at this;cases this;exact⟨Hi,S,af.refl _,z,λ_ _ h=>.inl h⟩
 | none =>
  have sm:af Hi (upd Hi b (.tup vs)):=js z;have ne:∀{q:cW}{c:Dat},cu K H Hi q c->q≠b:=λh y=>by subst y;exact h.nt e
  refine⟨_,⟨Bv S.sub e,S.keep,S.eF,λi d h=>?_,λi c h=>?_,λi c h=>?_,S.ne,S.len,λq u h=>?_⟩,sm,bu,λq u h=>?_⟩
  ·obtain⟨v,a,r⟩:=S.dat i d h;exact⟨v,a,Rep.mono sm r⟩
  ·obtain⟨q,a,o,j,k⟩:=S.own i c h;exact⟨q,a,o.keeps rfl sm (by rw[aA (ne o)];exact o.some.2),j,k⟩
  ·obtain⟨q,a,o,j⟩:=S.io i c h;exact⟨q,a,o.keeps rfl sm (by rw[aA (ne o)];exact o.some.2),j⟩
  ·by_cases g:q=b
   ·subst g;rw[bu] at h;cases h;exact .inr (.inr ⟨vs,rfl⟩)
   ·rw[aA g] at h;exact S.nw q u h
  ·by_cases g:q=b
   ·subst g;rw[bu] at h;cases h;exact .inr ⟨vs,rfl⟩
   ·rw[aA g] at h;exact .inl h
theorem SR.A6 (k:kR H kvs bs):∀{Hi:Hp},SR K H0 ps Z σ H Hi->∃a,SR K H0 ps Z σ H a/\af Hi a/\kR a kvs bs/\∀q u,a q=some u->Hi q=some u\/∃vs,u=.tup vs:=by
 unfold kR at k;induction k with
 | nil=>exact λS=>⟨_,S,af.refl _,.nil,λ_ _ h=>.inl h⟩
 | cons h _ c =>
  intro Hi S;obtain⟨H1,d,f,g,i⟩:=S.share h;obtain⟨j,l,b,m,n⟩:=c d;exact⟨j,l,f.trans b,.cons (b _ _ g) m,λq u e=>(n q u e).elim (i q u) .inr⟩
def SR.hold (S:SR K H0 ps Z σ H Hi)(e:Z[i]? = some (.own c))(l:σ[i]? = some (some (.ref p)))(r:Rep K (upd Hi p o) d' (.ref p)):SR K H0 ps (Z.set i (.dat d')) σ (upd H p o) (upd Hi p o)/\af Hi (upd Hi p o):=by
 obtain⟨p',m,D,nl,x⟩:=S.own i _ e;rw[l] at m;cases m;have n:i < Z.length:=(bc.mp e).1;have sm:af Hi (upd Hi p o):=js D.some.2;have back:∀{j:Nat}{s:Slot},(Z.set i (.dat d'))[j]? = some s->(∀d,s≠.dat d)->j≠i/\Z[j]? = some s:=λ{j s} h E=>by
  by_cases f:j=i
  ·subst f;rw[iW n] at h;cases h;exact absurd rfl (E _)
  ·rw[iN (Ne.symm f)] at h;exact⟨f,h⟩
 refine⟨⟨wH S.sub,λb u t F=>?_,λq A=>?_,λj d h=>?_,λj c h=>?_,λj c h=>?_,λj k c G q I J=>?_,by rw[vj];exact S.len,λq u eq=>?_⟩,sm⟩
 ·rw[aA (λz=>by rw[z,x] at t;cases t)]
  exact S.keep b u t F
 ·have B:q≠p:=λz=>nl (z ▸ A)
  rw[aA B];exact S.eF q A
 ·by_cases f:j=i
  ·subst f;rw[iW n] at h;cases h;exact⟨_,l,r⟩
  ·rw[iN (Ne.symm f)] at h;obtain⟨v,a,b⟩:=S.dat j d h;exact⟨v,a,b.mono sm⟩
 ·obtain⟨f,h⟩:=back h (by intro d z;cases z)
  obtain⟨q,a,b,w,L⟩:=S.own j c h;have g:q≠p:=λz=>f (S.ne j i _ _ p (.inl h) (.inl e) (z ▸ a) l)
  exact⟨q,a,b.keeps (aA g) sm (by rw[aA g];exact b.some.2),w,L⟩
 ·obtain⟨f,h⟩:=back h (by intro d z;cases z)
  obtain⟨q,a,b,w⟩:=S.io j c h;have g:q≠p:=λz=>f (S.ne j i _ _ p (.inr h) (.inl e) (z ▸ a) l)
  exact⟨q,a,b.keeps (aA g) sm (by rw[aA g];exact b.some.2),w⟩
 ·have M:=I.imp (λz=>(back z (by intro d y;cases y)).2) λz=>(back z (by intro d y;cases y)).2
  have N:=J.imp (λz=>(back z (by intro d y;cases y)).2) λz=>(back z (by intro d y;cases y)).2
  exact S.ne j k c G q M N
 ·by_cases C:q=p
  ·subst C;exact .inr (.inl x)
  ·rw[aA C] at eq;exact S.nw q u eq
def SR.held (S:SR K H0 ps Z σ H Hi)(s:cu K H Hi p c)(nl:¬fL ps p)(k:H0.1 p=none)(nd:∀(i:Nat) (l:Dat),(Z[i]? = some (.own l)\/Z[i]? = some (.io l))->σ[i]?≠some (some (.ref p))):SR K H0 ps Z σ (upd H p o) (upd Hi p o)/\af Hi (upd Hi p o):=by
 have sm:af Hi (upd Hi p o):=js s.some.2;refine⟨⟨wH S.sub,λb u f t=>?_,λq m=>?_,λj d h=>?_,λj c h=>?_,λj c h=>?_,S.ne,S.len,λq u eq=>?_⟩,sm⟩
 ·rw[aA (λz=>by rw[z,k] at f;cases f)]
  exact S.keep b u f t
 ·have n:q≠p:=λz=>nl (z ▸ m)
  rw[aA n];exact S.eF q m
 ·obtain⟨v,a,b⟩:=S.dat j d h;exact⟨v,a,b.mono sm⟩
 ·obtain⟨q,a,b,g,w⟩:=S.own j c h;have e:q≠p:=λz=>nd j c (.inl h) (z ▸ a)
  exact⟨q,a,b.keeps (aA e) sm (by rw[aA e];exact b.some.2),g,w⟩
 ·obtain⟨q,a,b,g⟩:=S.io j c h;have e:q≠p:=λz=>nd j c (.inr h) (z ▸ a)
  exact⟨q,a,b.keeps (aA e) sm (by rw[aA e];exact b.some.2),g⟩
 ·by_cases r:q=p
  ·subst r;exact .inr (.inl k)
  ·rw[aA r] at eq;exact S.nw q u eq
end
noncomputable def iP (a:fD):List Dat:=a.map λk=>.tup (k.1.map .str)
theorem AH {K:gj}{H:Hp}:∀l:List eT,ay K H (l.map .str) (l.map V.str)
 | []=>rfl
 | x::l=>⟨_,_,rfl,rfl,AH l⟩
def BC {K:gj}{e:Hp}{p:cW}{o:tm}{kvs:List (List Key×V)}{bs:List cW}{a:fD}(g:e p=some (.ba o (.dT kvs))) (i:bP K e a kvs) (kb:kR e kvs bs):JW K (wC p o kvs bs) (iP a) e:=by
 intro j H2 k;have hl:=bP.length i;have lk:(iP a).length=a.length:=by unfold iP;rw[a8]
 refine⟨λd c=>⟨⟨k _ _ g,?_⟩,λv H3 q=>.inl ?_⟩,λh=>⟨k _ _ g,?_⟩⟩
 ·have:=(bc.mp c).1;omega
 ·obtain⟨rfl,b,r,rfl⟩:=q;refine⟨rfl,?_⟩;have l:j < a.length:=by
   have:=(bc.mp c).1;omega
  have m:kvs[j]? = some kvs[j]:=cm (by omega)
  have n:=vf kb j _ _ m r;have f:(kvs.map (·.1))[j]? = some kvs[j].1:=by rw[cn,m];rfl
  simp only[y8 i,cn,cm l] at f;have f:kT a[j].1=kvs[j].1:=Option.some.inj f;unfold iP at c;simp only[cn,cm l] at c;cases c;rw[<- f,sG] at n;exact⟨b,_,rfl,bb.of n,AH _⟩
 ·omega
section
variable {X:Cx}{pos:qe}
noncomputable def sX (i:Nat):IF:=λZ=>match Z[i]? with
 | some (.own (.aY _ a))=>some (iP a,Z.set i (.dat (.aY true a)))
 | _=>none
def HG (n:X.N.findIdx? (· == x)=some i)(q:cc X.env.scope x)(hd:bJ x)(f:cM x):dn X l (.Name x m) (sX i):=by
 refine⟨_,A7 (eC (dJ n) q hd f),λH0 ps Z σ H Hi items Z' R a S k=>?_⟩
 unfold sX at a;split at a
 ·rename_i fz r e;cases a;obtain⟨p,c,⟨_,kvs,s,g,np⟩,nl,n0⟩:=S.own i _ e;refine⟨_,c,p,kvs,rfl,s,λo bs kb=>?_⟩
  obtain⟨H1,h,d,t,_⟩:=S.A6 kb;obtain⟨p',b,⟨_,kvs',hp',rk',j⟩,_⟩:=h.own i _ e;rw[c] at b;cases b;have sm:=js (o:=.ba o (.dT kvs)) j;obtain⟨u,v⟩:=h.hold (o:=.ba o (.dT kvs)) (d':=.aY true r) e c ⟨p,o,kvs,rfl,bu,(g.mono d).mono sm⟩;exact k _ _ _ u (d.trans v) (BC bu ((g.mono d).mono sm) (Paired.nC t λ_ _ z=>sm _ _ z))
 ·cases a
noncomputable def pZ (f:EF):IF:=λZ=>(f Z).bind λp=>match p.1 with
 | .own (.aY _ a)=>some (iP a,p.2)
 | _=>none
theorem Dq (h:DE X e f):dn X n e (pZ f):=by
 obtain⟨t,s,q⟩:=h;refine⟨_,A7 s,λw x Z A H B items Z' R a S k=>?_⟩
 unfold pZ at a;cases c:f Z with
 | none=>rw[c] at a;cases a
 | some dp =>
  obtain⟨r,Z1⟩:=dp;rw[c] at a;simp only[a5] at a;split at a
  ·rename_i C D;cases a;refine q w x Z A H B _ _ _ c S λv E Hi1 F G I=>?_
   obtain⟨p,rfl,i,nl,J,nd⟩:=I;obtain⟨_,kvs,j,L,M⟩:=id i;refine⟨p,kvs,rfl,j,λo bs kb=>?_⟩
   obtain⟨d,l,g,N,O⟩:=F.A6 kb;have b:d p=none:=by
    cases z:d p with
    | none=>rfl
    | some u =>
     rcases O p u z with y | ⟨ts,y⟩
     ·rw[M] at y;cases y
     ·subst y;have t:=l.sub _ _ z;rw[j] at t;cases t
   have m:cu X.K E d p (.aY C D):=i.keeps rfl g b;have sm:=js (o:=.ba o (.dT kvs)) b;obtain⟨P,Q⟩:=l.held (o:=.ba o (.dT kvs)) m nl J nd;exact k _ _ _ P ((G.trans g).trans Q) (BC bu ((L.mono g).mono sm) (Paired.nC N λ_ _ z=>sm _ _ z))
  ·cases a
end
noncomputable def lP (a:Bool) (i:Nat) (d:UF):EF:=λZ=>(d Z).bind λq=>((q.2[i]?).bind ff).bind λc=>match c with
 | .aY _ b=>some (.dat (.bl (if a then !(eQ b q.1).isSome else (eQ b q.1).isSome)),q.2)
 | _=>none
section
variable {X:Cx}{pos:qe}
theorem yY {K:gj}{H a:Hp}{v:V}{b:Bool}{c:fD}(t:Top K H a v (.aY b c)):∃p kvs,v=.ref p/\Rd H p (.dT kvs)/\bP K a c kvs:=by
 obtain⟨p,o,kvs,e,d,f⟩:=t;refine⟨p,kvs,e,?_,f⟩;cases b with
 | false=>exact .inl d
 | true=>exact .inr ⟨o,d⟩
theorem uB (x:∀(f:Hp×Hp) (g:Nat->Option cW) (Z:DS) (e:St) (H h:Hp) (l:List eT) (j:DS) (Q:VK),q Z=some (l,j)->SR X.K f g Z e H h->(∀p m d,SR X.K f g j e m d->af h d->d p=some (.tup ((kT l).map kV))->Q (.ref p) m)->tk e H Q)(f)(g)(Z)(e)(H h)(o)(j)(Q)(a:lP n i q Z=some (o,j))(S:SR X.K f g Z e H h)(k:∀v m d,SR X.K f g j e m d->af h d->RR X.K f g j e m d v o->Q v m):mH (nJ n) tk (xj i) e H Q:=by
 unfold lP at a;cases r:q Z with
 | none=>simp only[r] at a;cases a
 | some dp =>
  obtain⟨l,Z1⟩:=dp;simp only[r] at a;dsimp only[a5] at a;cases s:(Z1[i]?).bind ff with
  | none=>rw[s] at a;cases a
  | some c =>
   rw[s] at a;simp only[a5] at a;split at a
   ·rename_i fz ks;cases a;refine x f g Z e H h _ _ _ r S λb y w u z A=>?_
    obtain⟨v,B,t⟩:=u.peek s;obtain⟨p,kvs,rfl,C,D⟩:=yY t;refine⟨_,B,p,_,rfl,.inr ⟨kvs,kT l,b,C,rfl,u.sub _ _ A,rfl⟩,?_⟩;rw[D.has l];exact k _ y w u z rfl
   ·cases a
def Fy (e:X.A.units + 1 < vi)(f:X.N.findIdx? (· == x)=some i)(g:cc X.env.scope x)(hd:bJ x)(d:cM x)(h:r3 .In (.Name x b)=false)(j:kF X a c):DE X (.Compare a [.In] [.Name x b] pos) (lP false i c):=by
 obtain⟨t,p,q⟩:=j;exact⟨_,BZ (vh e) p (eC (dJ f) g hd d) h,uB q⟩
theorem yB (q:∀(e:Hp×Hp) (g:Nat->Option cW) (Z:DS) (b:St) (H h:Hp) (o:Res) (i:DS) (Q:VK),f Z=some (o,i)->SR X.K e g Z b H h->(∀v j a,SR X.K e g i b j a->af h a->RR X.K e g i b j a v o->Q v j)->t b H Q)(e)(g)(Z)(b)(H h)(c)(i)(Q)(d:eI f Z=some (c,i))(S:SR X.K e g Z b H h)(k:∀j a,SR X.K e g i b j a->af h a->Q c j):vP t b H Q:=by
 unfold eI at d;cases l:f Z with
 | none=>rw[l] at d;cases d
 | some dp =>
  obtain⟨r,Z1⟩:=dp;rw[l] at d;simp only[a5] at d;split at d
  ·cases d;refine q e g Z b H h _ _ _ l S λv n m p s u=>?_
   exact⟨_,u,k n m p s⟩
  ·cases d
def M6 (e:X.A.units + 1 < vi)(f:X.N.findIdx? (· == x)=some i)(g:cc X.env.scope x)(hd:bJ x)(d:cM x)(h:r3 .In (.Name x b)=false)(j:kF X a c):DT X (.Compare a [.In] [.Name x b] pos) (eI (lP false i c)):=by
 obtain⟨t,p,q⟩:=j;exact⟨_,xg (vh e) p (eC (dJ f) g hd d) h,yB (uB q)⟩
def Ey (e:X.A.units + 1 < vi)(f:X.N.findIdx? (· == x)=some i)(g:cc X.env.scope x)(hd:bJ x)(d:cM x)(h:r3 .NotIn (.Name x b)=false)(j:kF X a c):DT X (.Compare a [.NotIn] [.Name x b] pos) (eI (lP true i c)):=by
 obtain⟨t,p,q⟩:=j;exact⟨_,xg (zM e) p (eC (dJ f) g hd d) h,yB (uB q)⟩
noncomputable def vR:List Dat->Option Res
 | [.aY _ a]=>some (.dat (.int (a.length:Int)))
 | ds=>pM ds
def IQ:CD X (λxs H Q=>tS X.K xs H Q\/(λxs H Q=>∃a kvs,xs=[V.ref a]/\Rd H a (.dT kvs)/\Q (.int kvs.length) H) xs H Q) vR:=by
 intro c d Z f H b vs ds o Q e S r k;unfold vR at e;split at e
 ·cases e;obtain⟨v,vr,rfl,g,h⟩:=r;cases h;obtain⟨p,kvs,rfl,i,j⟩:=yY (g.top S.sub);refine .inr ⟨p,kvs,rfl,i,?_⟩;refine k _ H b S (af.refl _) ?_;show V.int _=V.int _;rw[bP.length j]
 ·exact .inl (xH c d Z f H b vs ds o Q e S r k)
def Ot (a:Gl X "len")(b:X.mg "len"=none)(c:bK X e [])(d:DA X [e] fa):DE X (.Call (.Name "len" p) [e] [] pos) (cJ vR fa):=kr (bO.or vz Ds) IQ a b U7 d (by decide) (by decide) c rfl
def F2 (g:X.N.findIdx? (· == x)=some i)(j:cc X.env.scope x)(k:X.A.units + 1 < vi)(hd:bJ x)(d:cM x)(l:r0 e (some (.Subscript (.Name x b) a pt)) pos.line X.env=pure false)(h:DD X e f)(m:kF X a c):cp X (.Assign [.Subscript (.Name x b) a pt] e pos) (pd i c f):=IM i k (dJ g) j h m hd d l
structure la (x:eT):Prop where
 ok:True
def Nr (ht:la x)(b:X.N.Nodup)(c:X.N.findIdx? (· == x)=some i)(hx:Loc X.env.scope x)(d:X.fn x=true\/X.env.scope.names.lookup x=some .local)(e:r0 (.Dict [] [] p) (some (.Name x a)) pos.line X.env=pure false):cp X (.Assign [.Name x a] (.Dict [] [] p) pos) (fW i B6):=wG b c hx d e Gz
end
end DV
end
section
namespace L2
open PySem PySem.Spec PyProof.Rows
noncomputable def B5 (a b:cW):It:=⟨λi H=>∃xs ys x y,Rd H a (.lst xs)/\Rd H b (.lst ys)/\xs[i]? = some x/\ys[i]? = some y,λi H v c=>∃p x y,H p=none/\v=.ref p/\c=upd H p (.tup [x,y])/\(∀xs,Rd H a (.lst xs)->xs[i]? = some x)/\∀ys,Rd H b (.lst ys)->ys[i]? = some y,λi H=>∃xs ys,Rd H a (.lst xs)/\Rd H b (.lst ys)/\(xs.length<=i\/ys.length<=i)⟩
def Ju {P:hJ}{w:kq}{K:gj}{elts:List gs}{x1:Nat}{Y:qe}{a b z TI TO g j:cW}(D:ZipApart z TI TO g j a b) :
  Turn P w K (.Tuple elts x1 Y) (B5 a b) [z,TI,TO,g,j] z (λi h=>IsZip h z TI TO .none/\IsPair h TI (.ref g) (.ref j)/\(∃u v,IsPair h TO u v)/\h.IsListIter g a i/\h.IsListIter j b i) where
 mem:=by simp
 obj:=λi h st c l=>by
  obtain⟨B,C,⟨u,v,G⟩,⟨o1,Z,c1,d1⟩,⟨o2,e2,c2,d2⟩⟩:=st;simp only[cR,fm,or_false] at l
  rcases l with rfl | rfl | rfl | rfl | rfl
  ·exact⟨_,B,λv z=>by cases z⟩
  ·exact⟨_,C,λv z=>by cases z⟩
  ·exact⟨_,G,λv z=>by cases z⟩
  ·exact⟨o1,Z,λv z=>by rw[d1] at z;cases z⟩
  ·exact⟨o2,e2,λv z=>by rw[d2] at z;cases z⟩
 keep:=λi h h' st k=>⟨k z (by simp) _ st.1,k TI (by simp) _ st.2.1,st.2.2.1.imp λu e=>e.imp λv q=>k TO (by simp) _ q,st.2.2.2.1.at λo q=>k g (by simp) o q,st.2.2.2.2.at λo q=>k j (by simp) o q⟩
 item:=by
  intro X hP hw hK d i J s σ H E I F st hg;subst hP hw hK;obtain⟨B,C,⟨u0,v0,G⟩,S,T⟩:=st;obtain⟨xs,ys,x,y,U,M,hx,hy⟩:=hg;obtain⟨_,its,n,rv,ea⟩:=U.ok I.ai;obtain⟨_,its',n',N,O⟩:=M.ok I.ai;obtain⟨u,hu,ru⟩:=rv.get hx;obtain⟨V,Pd,Pe⟩:=N.get hy;have p:=F z (by simp)
  have HT:=F TO (by simp)
  have t:=F g (by simp)
  have A:=F j (by simp)
  have lt:∀{c:cW}{o:tm},s.heap.get? c=some o->c≠s.heap.objs.size:=λe=>gW (fj e)
  refine wpAny_pyNext_zip_item D B C G S T (xs:=its.toArray) (ys:=its'.toArray) ⟨_,ea,rfl,n,rfl⟩ ⟨_,O,rfl,n',rfl⟩ (x:=u) (y:=V) (by simpa using hu) (by simpa using Pd) λh3 g1 g2 g3 g4 g5 g6 g7=>?_
  refine⟨_,rfl,wpAny_letOwnedTupleGo_zip g1 λQ f1 L=>?_⟩
  have L:UO z h3 Q:=L;have fr:H s.heap.objs.size=none:=I.ai.fresh (eS _);have cP:∀c o,c≠z->c≠TO->c≠g->c≠j->s.heap.get? c=some o->Q.get? c=some o:=λc o k1 k2 k3 k4 q=>(L.2 c k1).trans (g7 c o k1 k2 k3 k4 q)
  have ht:Q.get? s.heap.objs.size=some { cls:=.type "tuple",data:=.seq #[u,V] }:=(L.2 _ (Ne.symm (lt B))).trans g5;have f:∀{c:cW},c∉[z,TO,g,j]->c≠z/\c≠TO/\c≠g/\c≠j:=λ{c} h=>⟨λe=>h (by simp[e]),λe=>h (by simp[e]),λe=>h (by simp[e]),λe=>h (by simp[e])⟩
  have e9:∀c w,H c=some w->c≠z/\c≠TO/\c≠g/\c≠j:=λc w q=>⟨di q p.1,di q HT.1,di q t.1,di q A.1⟩
  have R:∀c w,H c=some w->c≠s.heap.objs.size:=λc w q=>di q fr
  refine⟨.ref s.heap.objs.size,upd H s.heap.objs.size (.tup [x,y]),?_,rfl,⟨_,x,y,fr,rfl,rfl,λzs B=>by rw[B.Cz U];exact hx,λzs B=>by rw[B.Cz M];exact hy⟩,⟨f1,?_,⟨u,V,(L.2 _ D.TOz).trans g2⟩,?_,?_⟩,λc l=>?_⟩
  ·show Inv X J σ (upd H s.heap.objs.size (.tup [x,y])) { s with heap:=Q,gens:=s.gens,drawn:=s.drawn,toks:=s.toks }
   refine Inv.step (s:=s) (H:=H) (h':=Q) I (g':=s.gens) (d':=s.drawn) (t':=s.toks) (ch:=[z,TO,g,j]) (λb l=>?_) (λb o _ _ d q _=>cP b o (f d).1 (f d).2.1 (f d).2.2.1 (f d).2.2.2 q) (λb o _ _ d q _=>⟨o.slots,cP b o (f d).1 (f d).2.1 (f d).2.2.1 (f d).2.2.2 q⟩)
    (λb o d q n=>by rw[aA (gW (fj q))];exact n) (λb o d q=>⟨o,cP b o (f d).1 (f d).2.1 (f d).2.2.1 (f d).2.2.2 q⟩) (λb ys q=>by rw[aA (R b _ q)];exact q) (λb ob w q=>by rw[aA (R b _ q)];exact q)
    (λb ps q=>⟨#[],by rw[aA (R b _ q),q];simp⟩) (λm hm=>?_) (λb w q=>?_) I.bare
   ·simp only[cR,fm,or_false] at l
    rcases l with rfl | rfl | rfl | rfl
    ·exact⟨p.2.2.2.1,p.2.1,p.2.2.2.2.1,p.2.2.2.2.2⟩
    ·exact⟨HT.2.2.2.1,HT.2.1,HT.2.2.2.2.1,HT.2.2.2.2.2⟩
    ·exact⟨t.2.2.2.1,t.2.1,t.2.2.2.2.1,t.2.2.2.2.2⟩
    ·exact⟨A.2.2.2.1,A.2.1,A.2.2.2.2.1,A.2.2.2.2.2⟩
   ·obtain⟨o,es,ep,ho,r⟩:=hm;exact⟨o,es,ep,cP _ o (Ne.symm p.2.1) (Ne.symm HT.2.1) (Ne.symm t.2.1) (Ne.symm A.2.1) ho,r⟩
   ·by_cases l:b=s.heap.objs.size
    ·subst l;rw[bu] at q;cases q;exact⟨by show 2<=bg;unfold bg;decide,[u,V],.cons ru (.cons Pe .nil),_,ht,rfl,_,rfl⟩
    ·rw[aA l] at q;refine (I.ai b w q).ij (λc v d r=>?_) (λc r=>by rw[aA (R c _ r)];exact r) λc ys r=>by rw[aA (R c _ r)];exact r
     rcases d with rfl | d
     ·exact cP c v (e9 _ _ q).1 (e9 _ _ q).2.1 (e9 _ _ q).2.2.1 (e9 _ _ q).2.2.2 r
     ·exact cP c v (e9 _ _ d).1 (e9 _ _ d).2.1 (e9 _ _ d).2.2.1 (e9 _ _ d).2.2.2 r
  ·exact cP TI _ D.TIz D.TITO D.TIi1 D.TIi2 C
  ·exact g3.at λo q=>(L.2 _ D.i1z).trans q
  ·exact g4.at λo q=>(L.2 _ D.i2z).trans q
  ·have Ph:c≠s.heap.objs.size:=by
    obtain⟨o1,Z,_⟩:=S;obtain⟨o2,e2,_⟩:=T;simp only[cR,fm,or_false] at l
    rcases l with rfl | rfl | rfl | rfl | rfl
    ·exact lt B
    ·exact lt C
    ·exact lt G
    ·exact lt Z
    ·exact lt e2
   rw[aA Ph];exact (F c l).1
 done:=by
  intro X hP hw hK d i J s σ H E I F st hg;subst hP hw hK;obtain⟨B,C,⟨u0,v0,G⟩,S,T⟩:=st;obtain⟨xs,ys,U,M,hl⟩:=hg;obtain⟨_,its,n,rv,ea⟩:=U.ok I.ai;obtain⟨_,its',n',N,O⟩:=M.ok I.ai;have l1:=rv.length;have l2:=N.length;refine wpAny_pyNext_zip_end (I.ok.hd d) D B C G S T (xs:=its.toArray) (ys:=its'.toArray) ⟨_,ea,rfl,n,rfl⟩ ⟨_,O,rfl,n',rfl⟩ (hl.imp (λz=>by simp;lia) λz=>by simp;lia) λh' k=>?_
  have p:=F z (by simp)
  have HT:=F TO (by simp)
  have t:=F g (by simp)
  have A:=F j (by simp)
  have cP:∀c o,c≠z/\c≠TO/\c≠g/\c≠j->s.heap.get? c=some o->h'.get? c=some o:=λc o q e=>k c o q.1 q.2.1 q.2.2.1 q.2.2.2 e
  have f:∀{c:cW},c∉[z,TO,g,j]->c≠z/\c≠TO/\c≠g/\c≠j:=λ{c} h=>⟨λe=>h (by simp[e]),λe=>h (by simp[e]),λe=>h (by simp[e]),λe=>h (by simp[e])⟩
  have e9:∀c w,H c=some w->c≠z/\c≠TO/\c≠g/\c≠j:=λc w q=>⟨di q p.1,di q HT.1,di q t.1,di q A.1⟩
  refine⟨rfl,?_⟩;show Inv X J σ H { s with heap:=h',gens:=s.gens,drawn:=s.drawn,toks:=s.toks }
  refine Inv.step (s:=s) (H:=H) (h':=h') I (g':=s.gens) (d':=s.drawn) (t':=s.toks) (ch:=[z,TO,g,j]) (λb l=>?_) (λb o _ _ d q _=>cP b o (f d) q) (λb o _ _ d q _=>⟨o.slots,cP b o (f d) q⟩)
   (λ_ _ _ _ n=>n) (λb o d q=>⟨o,cP b o (f d) q⟩) (λ_ _ q=>q) (λ_ _ _ q=>q) (λb ps q=>⟨#[],by rw[q];simp⟩) (λm hm=>?_) (λb w q=>?_) I.bare
  ·simp only[cR,fm,or_false] at l
   rcases l with rfl | rfl | rfl | rfl
   ·exact⟨p.2.2.2.1,p.2.1,p.2.2.2.2.1,p.2.2.2.2.2⟩
   ·exact⟨HT.2.2.2.1,HT.2.1,HT.2.2.2.2.1,HT.2.2.2.2.2⟩
   ·exact⟨t.2.2.2.1,t.2.1,t.2.2.2.2.1,t.2.2.2.2.2⟩
   ·exact⟨A.2.2.2.1,A.2.1,A.2.2.2.2.1,A.2.2.2.2.2⟩
  ·obtain⟨o,es,ep,ho,r⟩:=hm;exact⟨o,es,ep,cP _ o ⟨Ne.symm p.2.1,Ne.symm HT.2.1,Ne.symm t.2.1,Ne.symm A.2.1⟩ ho,r⟩
  ·refine (I.ai b w q).ij (λc v d r=>?_) (λc r=>r) λc ys r=>r
   rcases d with rfl | d
   ·exact cP c v (e9 _ _ q) r
   ·exact cP c v (e9 _ _ d) r
 self:=λ_ _ _ _ _ st h=>YF st.1 h
section
variable {X:Cx}
def LP:P2 "zip"=some (.type "zip"):=by decide +kernel
noncomputable def Mz (d:TA):TI:=λe H R=>d e H λvs c=>∃a b xs ys,vs=[.ref a,.ref b]/\Rd c a (.lst xs)/\Rd c b (.lst ys)/\R (B5 a b) c
def JY (x:Gl X "zip")(y:X.mg "zip"=none)(z:PA X [a,b] k)(A:bK X a [b])(l:(T3 pos (ph [b] X.env)).any (·.1)=false):PI X (.Tuple elts w i) (.Call (.Name "zip" p) [a,b] [] pos) (Mz k):=by
 intro j s B H R I h;refine Call_ (nT I x y LP (TR (aB (z pos j s B H _ I h) λus d ⟨vs,C,f,D,E⟩=>?_) A l))
 obtain⟨a,b,xs,ys,rfl,F,m,q⟩:=E;obtain⟨u,u',rfl,G,o⟩:=D.two;cases G;cases o;obtain⟨_,its,n,rv,e⟩:=F.ok f.ai;obtain⟨_,its',J,rv',r⟩:=m.ok f.ai;refine call_zip_2 (xs:=its.toArray) (ys:=its'.toArray) ⟨_,e,rfl,n,rfl⟩ ⟨_,r,rfl,J,rfl⟩ λh' t K L M N k6 O=>YF t ?_
 refine⟨_,[d.heap.objs.size + 4,d.heap.objs.size + 2,d.heap.objs.size + 3,d.heap.objs.size,d.heap.objs.size + 1],_,_,C,rfl,f.kept (t':=d.toks) O,Ju (zipApart_new (fj e) (fj r)),⟨t,K,⟨_,_,L⟩,M,N⟩,λc v=>?_,q⟩
 have g:d.heap.objs.size<=c:=by
  simp only[cR,fm,or_false] at v
  rcases v with rfl | rfl | rfl | rfl | rfl
  ·exact UL _ _
  ·exact UL _ _
  ·exact UL _ _
  ·exact eS _
  ·exact UL _ _
 exact f.kB g (f.ai.fresh g)
end
end L2
namespace DV
open PySem PySem.Spec PyProof.Rows L2
noncomputable def nB (as bs:List Dat):List Dat:=(as.zip bs).map λp=>.tup [p.1,p.2]
noncomputable def sx (fa:AF):IF:=λZ=>(fa Z).bind λp=>match p.1 with
 | [.lst as,.lst bs]=>some (nB as bs,p.2)
 | _=>none
section
variable {X:Cx}{pos:qe}
theorem Ov {elts:List gs}{K:Nat}{s p:qe}{a b:gs}{fa:AF}(L:Gl X "zip") (M:X.mg "zip"=none) (N:bK X a [b]) (A:(T3 pos (ph [b] X.env)).any (·.1)=false) (O:DA X [a,b] fa):dn X (.Tuple elts K s) (.Call (.Name "zip" p) [a,b] [] pos) (sx fa):=by
 obtain⟨t,P,q⟩:=O;refine⟨_,JY L M P N A,λQ T Z U H V items Z' R c S k=>?_⟩
 unfold sx at c;cases u:fa Z with
 | none=>rw[u] at c;cases c
 | some dp =>
  obtain⟨as,Z1⟩:=dp;rw[u] at c;simp only[a5] at c;split at c
  ·rename_i as bs;cases c;refine q Q T Z U H V _ _ _ u S λvs W B w Y r1=>?_
   obtain⟨v,vr,rfl,⟨a',h,rfl,j,rs⟩,v',vr',rfl,⟨b',e,rfl,f,r⟩,rn⟩:=r1;cases rn;have hl:=rs.length;have hl':=r.length;have C:(nB as bs).length=min as.length bs.length:=by unfold nB;rw[a8,UU]
   refine⟨a',b',h,e,rfl,Rd.mono w.sub j,Rd.mono w.sub f,k _ W B w Y λi H2 g=>⟨λd l=>?_,λD=>⟨h,e,Rd.mono g j,Rd.mono g f,?_⟩⟩⟩
   ·have hi:i < min as.length bs.length:=by rw[<- C];exact (bc.mp l).1
    have E:i < as.length:=by omega
    have F:i < bs.length:=by omega
    have G:d=.tup [as[i],bs[i]]:=by
     unfold nB at l;rw[cn,(Ts (z:=(as[i],bs[i]))).mpr ⟨cm E,cm F⟩] at l;exact (Option.some.inj l).symm
    subst G;obtain⟨x,ex,rx⟩:=rs.get (cm E);obtain⟨y,I,ry⟩:=r.get (cm F);refine⟨⟨h,e,x,y,Rd.mono g j,Rd.mono g f,ex,I⟩,λv H3 yl=>.inr ?_⟩
    obtain⟨p,x',y',hp,rfl,rfl,m,o⟩:=yl;have m:=m h (Rd.mono g j);have o:=o e (Rd.mono g f);rw[ex] at m;rw[I] at o;cases m;cases o;exact⟨p,_,hp,rfl,λHi' J n=>⟨p,_,rfl,bb.of bu,_,_,rfl,(rx.mono J).mono (js n),_,_,rfl,(ry.mono J).mono (js n),rfl⟩⟩
   ·rw[C] at D
    lia
  ·cases c
end
theorem qT:∀{a:List eT}{b:List b8},aC (a.map V.str) b->UQ b a
 | [],_,h=>by cases h;exact .nil
 | x::a,_,h=>by
  rw[gi] at h;cases h with
  | cons r t =>
   obtain⟨k,e⟩:=(show ∃t,_=Tn x t from r)
   subst e;exact .cons x k (qT t)
section
variable {X:Cx}{pos:qe}
noncomputable def vk:List V->Hp->VK->Prop:=λxs H Q=>∃p a,xs=[.ref p]/\Rd H p (.lst (a.map V.str))/\a.length < 64/\∀l,H l=none->Q (.ref l) (upd H l (.lst ((bU a).map V.str)))
def L3:bO X (.builtin "sorted") vk:=by
 intro pins s σ H xs us Q I r h;obtain⟨p,b,rfl,j,h64,q⟩:=h;obtain⟨u,rfl,k⟩:=r.one;cases k;obtain⟨z,its,n,f,e⟩:=j.ok I.ai;have d:=qT f;have m:its.length < 64:=by
  have:=f.length;rw[a8] at this;omega
 refine sortedK W4 (l:=p) (vs:=its) ⟨_,e,rfl,n,rfl⟩ d.keysOf (λv₁ v₂ rest e=>Xz (by rw[<- e];exact d)) m λg t v=>?_
 obtain⟨ss',i,w,x⟩:=ur d t v;obtain⟨c,y⟩:=sortedAll_at s.heap its ((XY g).map (·.2));rw[qQ w x] at i;have A:((bU b).map V.str).length<=sizeLine:=by
  have B:(bU b).length=b.length:=(gp b bX).length_eq;simp only[a8,B,qo];omega
 exact⟨.ref (s.heap.objs.size + 1),_,I.laid (a:=s.heap.objs.size + 1) (o:=.lst ((bU b).map V.str)) (t':=s.toks) (λ_ _=>sortedAll_old) (Uz _) ⟨A,_,c,qy i,by simp only[U9];exact y⟩,rfl,q _ (I.ai.fresh (Uz _))⟩
noncomputable def ud:List Dat->Option Res
 | [.lst ds]=>match cH ds with
  | some a=>if a.length < 64 then some (.own (.lst ((bU a).map .str))) else none
  | none=>gI [.lst ds]
 | ds=>gI ds
def HK:CD X (λxs H Q=>(λxs H Q=>sy X.K xs H Q\/rF xs H Q) xs H Q\/vk xs H Q) ud:=by
 intro d e Z f H c vs ds o Q a S r k;unfold ud at a;split at a
 ·rename_i ds';split at a
  ·rename_i g h;split at a
   ·rename_i i;cases a;obtain⟨v,vr,rfl,⟨p,ws,rfl,j,rs⟩,m⟩:=r;cases m;have n:=jP h rs;subst n;refine .inr ⟨p,g,rfl,Rd.mono S.sub j,i,λl b=>?_⟩
    exact k (.ref l) _ c (S.made b) (af.refl _) ⟨l,rfl,⟨_,bu,pT _,S.dy b⟩,(S.bM b).2,(S.bM b).1,S.d6 b⟩
   ·cases a
  ·exact .inl (sM d e Z f H c vs _ o Q a S r k)
 ·exact .inl (sM d e Z f H c vs _ o Q a S r k)
noncomputable def uC:List Dat->Option Res
 | [.lst ds]=>some (.own (.lst ds))
 | [.tup ds]=>some (.own (.lst ds))
 | _=>none
def F5:CD X (λxs H Q=>∃p vs,xs=[.ref p]/\(cb X.K H p vs\/bb X.K H p vs)/\∀l,H l=none->Q (.ref l) (upd H l (.lst vs))) uC:=by
 intro H0 ps Z σ H g vs ds o Q e S r k;unfold uC at e;split at e
 ·cases e;obtain⟨v,h,rfl,⟨a,c,rfl,d,rs⟩,f⟩:=r;cases f;refine⟨a,c,rfl,.inl (.inl (Rd.mono S.sub d)),λl b=>?_⟩
  exact k (.ref l) _ g (S.made b) (af.refl _) ⟨l,rfl,⟨_,bu,rs,S.dy b⟩,(S.bM b).2,(S.bM b).1,S.d6 b⟩
 ·cases e;obtain⟨v,h,rfl,⟨a,c,rfl,d,rs⟩,f⟩:=r;cases f;refine⟨a,c,rfl,.inr (bb.mono S.sub d),λl b=>?_⟩
  exact k (.ref l) _ g (S.made b) (af.refl _) ⟨l,rfl,⟨_,bu,rs,S.dy b⟩,(S.bM b).2,(S.bM b).1,S.d6 b⟩
 ·cases e
def Jm (a:Gl X "list")(b:X.mg "list"=none)(c:bK X e [])(d:DA X [e] fa):DE X (.Call (.Name "list" p) [e] [] pos) (cJ uC fa):=rA Mc F5 a b (by decide +kernel) d (by decide) (by decide) c rfl
end
section
variable {prog:hJ}{w:kq}{A:pl}{E:b8->cA->Prop}{s:cA}
def GK (u:s.heap.get? a=some o)(v:o.cls=.type "tuple")(x:o.data=.seq vs.toArray n)(h:UQ vs k)(l:vs.length < 64)(q:∀(d i:m3) (c:Nat) (g:List b8),(∀b f,s.heap.get? b=some f->d.get? b=some f)->(∀b f,d.get? b=some f->i.get? b=some f)->i.get? d.objs.size=some (z8 "list" g.toArray c)->UQ g (bU k)->Q (.ref d.objs.size) { s with heap:=i }):hE (hR prog w) A (call (.builtin "sorted") [.ref a]) Q E s:=by
 refine Tp XX Xy XA (XB _) ?z;unfold T6.«sorted»
 refine bt (m:=Yc "sorted" 1 1 _) (eR (bt (wpAny_collect_seq a (.inr rfl) u v x (λd y=>?I) (by simp;rw[qo];omega))))
 refine bt (VJ ?J);have j:(d.push (z8 "list" vs.toArray 0)).get? d.objs.size=some (z8 "list" vs.toArray 0):=hB _ rfl;refine bt (nL (ql Vt ⟨_,j,rfl⟩ Vj (Y0 W4 j h.keysOf (λv₁ v₂ rest e=>Xz (by rw[<- e];exact h)) l λp B C=>⟨_,rfl,?K⟩) (Vv _)))
 obtain⟨ss',r,D,F⟩:=ur h B C;obtain⟨c,G⟩:=Zs (out:=(XY p).map (·.2)) j;rw[qQ D F] at r;refine eR ⟨_,rfl,q d _ c _ y (λb f e=>?L) (by simp only[U9];exact G) r⟩
 have H:b≠d.objs.size:=gW (fj e);have t:(d.push (z8 "list" vs.toArray 0)).get? b=some f:=el _ e;exact (Zf H (fj t)).trans t
end
section
variable {X:Cx}{pos:qe}
noncomputable def yn (K:gj):List V->Hp->VK->Prop:=λxs H Q=>∃p a,xs=[.ref p]/\bb K H p (a.map V.str)/\a.length < 64/\∀l,H l=none->Q (.ref l) (upd H l (.lst ((bU a).map V.str)))
def Lf:bO X (.builtin "sorted") (yn X.K):=by
 intro pins s σ H xs us Q I r h;obtain⟨p,b,rfl,i,h64,q⟩:=h;obtain⟨u,rfl,j⟩:=r.one;cases j;obtain⟨its,e,⟨o,d,k,n,l⟩,_⟩:=I.tuple i;have m:=qT e;have t:its.length < 64:=by
  have:=e.length;rw[a8] at this;omega
 refine GK d k l m t λf g2 c vs' v w x y=>?_
 have g:=I.kept (t':=s.toks) v;have z:((bU b).map V.str).length<=sizeLine:=by
  have d:(bU b).length=b.length:=(gp b bX).length_eq;simp only[a8,d,qo]
  lia
 exact⟨.ref f.objs.size,_,g.laid (a:=f.objs.size) (o:=.lst ((bU b).map V.str)) (t':=s.toks) w (eS _) ⟨z,_,c,qy y,x⟩,rfl,q _ (g.ai.fresh (eS _))⟩
noncomputable def lD:List Dat->Option Res
 | [.tup ds]=>(cH ds).bind λa=>if a.length < 64 then some (.own (.lst ((bU a).map .str))) else none
 | ds=>ud ds
def LL:CD X (λxs H Q=>((λxs H Q=>sy X.K xs H Q\/rF xs H Q) xs H Q\/vk xs H Q)\/yn X.K xs H Q) lD:=by
 intro f g Z h H d vs ds o Q a S r k;unfold lD at a;split at a
 ·rename_i e;cases c:cH e with
  | none=>rw[c] at a;cases a
  | some i =>
   rw[c] at a;simp only[a5] at a;split at a
   ·rename_i j;cases a;obtain⟨v,vr,rfl,⟨p,ws,rfl,m,rs⟩,n⟩:=r;cases n;have q:=jP c rs;subst q;refine .inr ⟨p,i,rfl,bb.mono S.sub m,j,λl b=>?_⟩
    exact k (.ref l) _ d (S.made b) (af.refl _) ⟨l,rfl,⟨_,bu,pT _,S.dy b⟩,(S.bM b).2,(S.bM b).1,S.d6 b⟩
   ·cases a
 ·exact .inl (HK f g Z h H d vs _ o Q a S r k)
def II (a:X.ex=[])(b:X.calm=true)(c:Gl X "sorted")(d:X.mg "sorted"=none)(f:bK X e [])(g:DA X [e] fa):DE X (.Call (.Name "sorted" p) [e] [] pos) (cJ lD fa) :=
 kr (bO.or (bO.or (bO.or (zU a) (zx a b)) L3) Lf) LL c d (by decide +kernel) g (by decide) (by decide) f rfl
end
end DV
end
section
namespace L2
open PySem PySem.Spec PyProof.Rows
section
variable {X:Cx}
noncomputable def Mu (te:TE):TE:=λb H Q=>te b H λv a=>∃d kvs,v=.ref d/\a d=some (.dK kvs)/\∀o,Q v (upd a d (.ba o (.dK kvs)))
def Nx (c:PE X e te):PE X e (Mu te):=by
 intro a s f H Q I h;refine aB (c a s f H _ I h) λv s1 ⟨y,H1,b,g,i⟩=>?_
 obtain⟨d,kvs,rfl,hd,q⟩:=i;obtain⟨z,lo,vs,kv,o,es,ep,j,rest⟩:=b.ai d _ hd;exact⟨.ref d,_,b.ba hd j,g,q o⟩
end
end L2
namespace DV
open PySem PySem.Spec PyProof.Rows L2
structure yO (x:eT):Prop where
 ok:True
noncomputable def rZ (f:EF):EF:=λZ=>(f Z).bind λp=>match p.1 with
 | .own (.bN a)=>some (.dat (.dE a),p.2)
 | _=>none
section
variable {X:Cx}{pos:qe}
theorem Je (h:DE X e f):DE X e (rZ f):=by
 obtain⟨t,p,q⟩:=h;refine⟨_,Nx p,λg i Z j H l r Z' Q a S k=>?_⟩
 unfold rZ at a;cases b:f Z with
 | none=>rw[b] at a;cases a
 | some dp =>
  obtain⟨r1,Z1⟩:=dp;rw[b] at a;simp only[a5] at a;split at a
  ·rename_i ks;cases a;refine q g i Z j H l _ _ _ b S λv H1 Hi1 m n s=>?_
   obtain⟨p,rfl,c,nl,u,nd⟩:=s;obtain⟨kvs,w,x,np⟩:=id c;refine⟨p,kvs,rfl,w,λo=>?_⟩
   obtain⟨y,d⟩:=m.held (o:=.ba o (.dK kvs)) c nl u nd;exact k _ _ _ y (n.trans d) ⟨p,o,kvs,rfl,bu,x.mono d⟩
  ·cases a
def EE (ht:yO x)(b:X.N.Nodup)(c:X.N.findIdx? (· == x)=some i)(hx:Loc X.env.scope x)(d:X.fn x=true\/X.env.scope.names.lookup x=some .local)(g:r0 e (some (.Name x a)) pos.line X.env=pure false)(h:DE X e f):cp X (.Assign [.Name x a] e pos) (fW i (rZ f)):=wG b c hx d g (Je h)
end
noncomputable def oj:Dat->Dat->Option Res
 | .int i,.int j=>some (.dat (.bl (decide (i < j))))
 | .str x,.str y=>some (.dat (.bl (decide (x.cps.toList < y.cps.toList))))
 | _,_=>none
section
variable {X:Cx}{pos:qe}
def Jw:eE X (λx y H Q=>(gx λi j=>.bl (decide (i < j))) x y H Q\/(λx y H Q=>∃i j,x=.str i/\y=.str j/\Q (.bl (decide (i.cps.toList < j.cps.toList))) H) x y H Q) oj:=by
 intro H0 ps Z σ H a x y d d' o Q e S rx b k;unfold oj at e;split at e
 ·cases e;cases rx;cases b;exact .inl ⟨_,_,rfl,rfl,k _ H a S (af.refl _) rfl⟩
 ·cases e;cases rx;cases b;exact .inr ⟨_,_,rfl,rfl,k _ H a S (af.refl _) rfl⟩
 ·cases e
def G' (c:DD X a f)(d:DD X b g):DT X (.Compare a [.Lt] [b] pos) (eI (cg oj f g)):=km (aI.or w4 Gf) Jw c d (jd _)
end
end DV
end
section
namespace PySem
open Sem (wp)
open PyProof.Rows
section
variable {prog:hJ}{w:kq}{A:pl}{E:b8->cA->Prop}{β:Type}
theorem xq:∀(m k j:Nat),j < m->(∀i,k<=i->i < k + j->∀R:ForInStep β->cA->Prop,R (.yield b) s->hE (hR prog w) A (f i b) R E s)->(∀R:ForInStep β->cA->Prop,R (.done r) s'->hE (hR prog w) A (f (k + j) b) R E s)->Q r s' ->
  hE (hR prog w) A (forIn (List.range' k m) b f) Q E s
 | 0,_,_,h,_,_,_=>absurd h (X5 _)
 | m + 1,k,0,h,_,hd,q=>by
  rw[XM,UW];exact bt (hd _ (eR q))
 | m + 1,k,j + 1,h,a,hd,q=>by
  rw[XM,UW];refine bt (a k (eS _) (by lia) _ ?_)
  exact xq m (k + 1) j (by lia) (λi h1 h2=>a i (by lia) (by lia)) (by rw[show k + 1 + j=k + (j + 1) from by lia];exact hd) q
end
section
variable {prog:hJ}{w:kq}{A:pl}{E:b8->cA->Prop}{h:m3}{g:Array WC}{d:Drawn}{t:Nat}{os:OsState}
def EB {l:cW}{its:Array b8}{n j:Nat}{x:eT}{tx:Zp}{a:List eT}{Q:Fin->cA->Prop}{o:tm}(B:h.get? l=some o) (f:o.cls=.type "tuple") (hd:o.data=.seq its n) (k:UQ its.toList a) (p:a[j]? = some x) (s:∀i,i < j->a[i]?≠some x)
  (q:Q (.done (.ret (.int (j:Int) t))) ⟨h,g,d,t + 1,os⟩) :
  hE (hR prog w) A (T6.«tuple.index» ⟨[.ref l,.str x tx],[]⟩) Q E ⟨h,g,d,t,os⟩:=by
 have hT:(⟨h,g,d,t,os⟩:cA).TypeIs (.ref l) "tuple":=⟨_,B,f⟩;obtain⟨cl,bN,dat,sl⟩:=o;simp only at f hd;subst f hd;have len:a.length=its.size:=by rw[<- k.strs];simp
 have v:j < its.size:=by
  have:=(bc.mp p).1;omega
 have at_:∀i (b:i < its.size),∃y u,its[i]? = some (Tn y u)/\a[i]? = some y:=λi b=>by
  obtain⟨y,u,e⟩:=k.all its[i] (by simp)
  refine⟨y,u,by rw[j' b,e],?_⟩
  simp only[<- k.strs,cn,k7,j' b,e];rfl
 unfold T6.«tuple.index»
 simp only[X2]
 repeat (any_goals (first | assumption | (with_reducible refine xq (r:=(some (.done (.ret (.int (j:Int) t))),())) (s':=⟨h,g,d,t + 1,os⟩) _ _ j ?C ?D ?F ?G) | wp_step))
 case C =>
  simp[X1];omega
 case D =>
  intro i _ b R r;obtain⟨y,u,m,c⟩:=at_ i (by lia)
  rw[m];refine bt (U6 ?_);rw[decide_eq_false (λz=>s i (by lia) (by simp only[c,z])),if_neg Xl]
  exact eR r
 case F =>
  intro R r;rw[t9];obtain⟨y,u,m,c⟩:=at_ j v;rw[p] at c;cases c;rw[m];refine bt (U6 ?_);rw[decide_eq_true rfl,if_pos rfl];refine bt ?_;unfold retInt;exact bt (wpAny_mkInt (eR (eR r)))
end
end PySem
namespace DV
open PySem PySem.Spec PyProof.Rows L2
section
variable {X:Cx}
noncomputable def Mh (K:gj):V->List V->Hp->VK->Prop:=λx vs H Q=>∃(p:cW) (a:List eT) (y:eT) (j:Nat),x=.ref p/\vs=[.str y]/\bb K H p (a.map V.str)/\a[j]? = some y/\(∀i,i < j->a[i]?≠some y)/\Q (.int (j:Int)) H
def JX:oy X "tuple.index" (Mh X.K):=by
 intro pins s σ H x vs v us Q I rx d h;obtain⟨p,ss,y,j,rfl,rfl,e,f,g,q⟩:=h;cases rx;obtain⟨u,rfl,i⟩:=d.one;obtain⟨t,rfl⟩:=(show ∃t,u=Tn y t from i)
 obtain⟨its,a,⟨o,b,c,n,k⟩,_⟩:=I.tuple e;have l:=qT a;refine ql WG ⟨_,b,c⟩ F.entry_tuple_index ?_ (F.args_tuple_index_2 _ _);exact EB b c k (by simpa using l) f g ⟨_,rfl,.int (j:Int),H,I.tok _,⟨_,rfl⟩,q⟩
end
structure tM (K:gj) (mg:eT->Option b8) (x:eT) (ss:List eT):Prop where
 is:∃(p:cW) (o:tm) (its:Array b8) (n:Nat),mg x=some (.ref p)/\K.lookup p=some o/\o.cls=.type "tuple"/\o.dict=none/\o.data=.seq its n/\its.size<=bg/\aC (ss.map V.str) its.toList
section
variable {X:Cx}
noncomputable def CW (a:List eT) (fa:AF):DF:=λZ=>(fa Z).bind λq=>match q.1 with
 | [.str y]=>if y∈a then some (.int ((a.idxOf y:Nat):Int),q.2) else none
 | _=>none
theorem CU {b:List eT}{y:eT}(h:y∈b):b[b.idxOf y]? = some y/\∀i,i < b.idxOf y->b[i]?≠some y:=by
 induction b with
 | nil=>cases h
 | cons a r d =>
  by_cases e:a=y
  ·subst e;rw[List.idxOf_cons_self];exact⟨rfl,λi f=>absurd f (X5 _)⟩
  ·have h:y∈r:=by
    rcases cR.mp h with rfl | h
    ·exact absurd rfl e
    ·exact h
   have g:(a::r).idxOf y=r.idxOf y + 1:=by
    have c:(a == y)=false:=by
     cases c:a == y with
     | false=>rfl
     | true=>exact absurd (eq_of_beq c) e
    rw[List.idxOf_cons,c];rfl
   rw[g];refine⟨by simpa using (d h).1,λi f=>?_⟩
   cases i with
   | zero=>simpa using e
   | succ i =>
    simpa using (d h).2 i (by lia)
theorem K8 (g:tM X.K X.mg x h)(A:Gl X x)(hd:bJ x)(j:TF (.Name x i) "index" X.env (eval (.Name x i) X.env)=eval (.Name x i) X.env)(m:mZ X pos e)(l:(c.endLine == pos.line)=true)(B:bK X e [])(C:DA X [e] fa):DD X (.Call (.Attribute (.Name x i) "index" c) [e] [] pos) (CW h fa):=by
 obtain⟨t,p,q⟩:=C;obtain⟨a,o,its,n,f,r,s,D,E,G,I⟩:=g.is;refine⟨_,mW PySem.F.plainAttrs_tuple WG PySem.F.type_tuple_index JX (Al (v:=.ref a) A f rfl hd) p j m l B rfl,λJ L Z M H N d Z' Q b S k=>?_⟩
 unfold CW at b;cases f:fa Z with
 | none=>rw[f] at b;cases b
 | some ap =>
  obtain⟨as,Z2⟩:=ap;rw[f] at b;dsimp only[a5] at b;split at b
  ·split at b
   ·rename_i y u;cases b;refine⟨.inr (.inl ⟨rfl,o,r,s,D⟩),q J L Z M H N _ _ _ f S λvs O w P R T=>?_⟩
    obtain⟨z,yr,rfl,U,V⟩:=T;cases V;cases U;exact⟨a,h,y,h.idxOf y,rfl,rfl,.inr ⟨o,its,n,r,s,E,G,I⟩,(CU u).1,(CU u).2,k _ O w P R rfl⟩
   ·cases b
  ·cases b
noncomputable def qx:Nat:=1000
def Mx (a:Vz (hR X.prog X.w) X.A X.env X.xe)(b:DT X c fc)(d:gm X body fb):cp X (.While c body [] pos) (fX fc fb qx):=Dr qx a b d
def Dm:cp X (.Raise e c p) (λ_=>none):=⟨⟨λ_ _ _=>False,λ_ _ _ _ _ _ h=>z6 h,λ_ _ _ _ _ _ _ _ e=>by cases e⟩⟩
def JG (ht:la x)(d:X.N.findIdx? (· == x)=some i)(e:cc X.env.scope x)(hd:bJ x)(a:cM x):dn X b (.Name x c) (sX i):=HG d e hd a
def Fg (ht:la g)(h:DE X (.Call (.Name g p) a [] pos) f):dn X b (.Call (.Name g p) a [] pos) (pZ f):=Dq h
end
end DV
end
section
namespace L2
open PySem PySem.Spec PyProof.Rows
section
variable {X:Cx}
noncomputable abbrev jo:=St->Hp->eT->VK->Prop
noncomputable def lE (X:Cx) (c:List gs) (t:jo):Prop:=∀(a:List (cW×tm)) (s:cA) (b:St) (H:Hp) (out:eT) (Q:VK),Inv X a b H s->t b H out Q->hE (hR X.prog X.w) X.A (joinParts out (evalEach c X.env)) (EP X a b Q) X.xe s
noncomputable def Hk:jo:=λ_ H out Q=>out.length<=bg/\Q (.str out) H
def IG:lE X [] Hk:=by
 intro pins s σ H out Q I ⟨h,q⟩;exact joinParts_nilE (joinParts_nil ⟨.str out,H,I.tok _,⟨_,rfl⟩,q⟩ h)
noncomputable def EI (a:eT) (t:jo):jo:=λb H out Q=>(out++a).length<=bg/\t b H (out++a) Q
def E5 (h:lE X c t):lE X (.Constant (.str a) j p::c) (EI a t):=by
 intro b s d H out Q I ⟨e,q⟩;refine Y1 (Zh (W2 ⟨e,?_⟩));exact h b _ d H _ Q (I.tok _) q
noncomputable def MK (te:TE) (t:jo):jo:=λa H out Q=>te a H λv b=>(∃y,v=.str y/\y.length<=bg/\(out++y).length<=bg/\t a b (out++y) Q)\/∃i:Int,v=.int i/\i.natAbs.log2 < 1920/\(out++(toString i:eT)).length<=bg/\t a b (out++(toString i:eT)) Q
def Dc (l:PE X e te)(h:lE X f t):lE X (.FormattedValue e (-1) none p::f) (MK te t):=by
 intro a s c H out Q I m;refine Y1 (Zh (FormattedValue_plain (aB (l a s c H _ I m) λv s1 ⟨x,g,j,k,b⟩=>?_)))
 rcases b with⟨y,rfl,n,d,b⟩ | ⟨i,rfl,o,d,b⟩
 ·obtain⟨t',rfl⟩:=k;exact (formatField_str (λt2 tk=>⟨d,h a _ c g _ Q (j.tok _) b⟩) n)
 ·obtain⟨t',rfl⟩:=k;exact formatField_int_small o ⟨d,h a _ c g _ Q (j.tok _) b⟩
def Iw (h:lE X (d::e::a) t):PE X (.JoinedStr (d::e::a) pos) (λb H Q=>t b H n4 Q):=by
 intro c s b H Q I q;exact JoinedStr_many (h c s b H n4 Q I q)
end
end L2
namespace DV
open PySem PySem.Spec PyProof.Rows L2
theorem fx (h:x.bind f=some y):∃a,x=some a/\f a=some y:=by
 cases x with
 | none=>cases h
 | some a=>exact⟨a,rfl,h⟩
section
variable {X:Cx}{pos:qe}
noncomputable def rD:List Dat->Option Res
 | [.int i]=>if i.natAbs.log2 < 1920 then some (.dat (.str (toString i:eT))) else none
 | _=>none
def KQ:CD X (λxs H Q=>∃i:Int,xs=[.int i]/\i.natAbs.log2 < 1920/\Q (.str (toString i)) H) rD:=by
 intro H0 ps Z σ H a vs ds o Q e S r k;unfold rD at e;split at e
 ·split at e
  ·rename_i i b;cases e;obtain⟨v,vr,rfl,c,d⟩:=r;cases c;cases d;exact⟨i,rfl,b,k _ H a S (af.refl _) rfl⟩
  ·cases e
 ·cases e
def JO (a:Gl X "str")(b:X.mg "str"=none)(c:bK X e [])(d:DA X [e] fa):DE X (.Call (.Name "str" p) [e] [] pos) (cJ rD fa):=rA HE KQ a b (by decide +kernel) d (by decide) (by decide) c rfl
noncomputable abbrev FS:=eT->DS->Option (eT×DS)
structure mU (X:Cx) (es:List gs) (F:FS):Prop where
 ex:∃t,lE X es t/\∀(H0:Hp×Hp) (ps:Nat->Option cW) (Z:DS) (σ:St) (H Hi:Hp) (out y:eT) (Z':DS) (Q:VK),F out Z=some (y,Z')->SR X.K H0 ps Z σ H Hi->(∀H' Hi',SR X.K H0 ps Z' σ H' Hi'->af Hi Hi'->Q (.str y) H')->t σ H out Q
noncomputable def Aa:Dat->Option eT
 | .str y=>if y.length<=bg then some y else none
 | .int i=>if i.natAbs.log2 < 1920 then some (toString i:eT) else none
 | _=>none
noncomputable def kQ:FS:=λout Z=>if out.length<=bg then some (out,Z) else none
noncomputable def lK (a:eT) (F:FS):FS:=λout Z=>if (out++a).length<=bg then F (out++a) Z else none
noncomputable def iS (f:DF) (F:FS):FS:=λout Z=>(f Z).bind λp=>(Aa p.1).bind λy=>if (out++y).length<=bg then F (out++y) p.2 else none
def Oz:mU X [] kQ:=⟨_,IG,λH0 ps Z σ H a out y Z' Q e S k=>by
 unfold kQ at e;split at e
 ·rename_i h;cases e;exact⟨h,k H a S (af.refl _)⟩
 ·cases e⟩
def Jv (h:mU X b F):mU X (.Constant (.str a) j p::b) (lK a F):=by
 obtain⟨t,p,q⟩:=h;refine⟨_,E5 p,λc d Z f H g out y i Q e S k=>?_⟩
 unfold lK at e;split at e
 ·rename_i h;exact⟨h,q c d Z f H g _ y i Q e S k⟩
 ·cases e
def IV (s:DD X e f)(h:mU X g F):mU X (.FormattedValue e (-1) none p::g) (iS f F):=by
 obtain⟨te,u,w⟩:=s;obtain⟨t,p,q⟩:=h;refine⟨_,Dc u p,λi j Z l H x out y A Q e S k=>?_⟩
 obtain⟨⟨d,Z1⟩,B,e⟩:=fx e;obtain⟨z,a,e⟩:=fx e;dsimp only at a e;split at e
 ·rename_i m;refine w i j Z l H x d Z1 _ B S λv C n D E o=>?_
  have b:=q i j Z1 l C n _ y A Q e D λG r I s'=>k G r I (E.trans s')
  unfold Aa at a;split at a
  ·split at a
   ·rename_i c;cases a;cases o;exact .inl ⟨_,rfl,c,m,b⟩
   ·cases a
  ·split at a
   ·rename_i c;cases a;cases o;exact .inr ⟨_,rfl,c,m,b⟩
   ·cases a
  ·cases a
 ·cases e
noncomputable def qA (F:FS):DF:=λZ=>(F n4 Z).map λp=>(.str p.1,p.2)
def Ii (h:mU X (b::c::a) F):DD X (.JoinedStr (b::c::a) pos) (qA F):=by
 obtain⟨t,p,q⟩:=h;refine⟨_,Iw p,λg i Z j H l d Z' Q e S k=>?_⟩
 obtain⟨⟨y,Z1⟩,m,n⟩:=g0.mp e;cases n;exact q g i Z j H l _ _ _ Q m S λo f r s'=>k _ o f r s' rfl
end
end DV
end
section
open PySem PySem.Spec PyProof.Rows L2 DV
local macro_rules | `(tactic| walk_at "vis")=>`(tactic| first|exact YC rfl|exact XJ (YC rfl)|exact XJ (XJ rfl)|fail)
local macro_rules | `(tactic| walk_at "loc")=>`(tactic| first|exact YC rfl|exact XJ rfl|fail)
local macro_rules | `(tactic| walk_at "fn")=>`(tactic| first|exact YC rfl|exact XJ rfl|fail)
local macro_rules | `(tactic| walk_at "nd")=>`(tactic| first|assumption|exact tj (by rfl)|fail)
local macro_rules | `(tactic| walk_at "room")=>`(tactic| first|assumption|exact L2.cN.mono (by assumption) (by decide)|fail)
local macro_rules | `(tactic| walk_at "da")=>`(tactic| first|exact Lr|(refine' Di ?a ?b ?c;(case a=>rfl);(case b=>walk_at "dd");(case c=>walk_at "da"))|fail)
local macro_rules | `(tactic| walk_at "dal")=>`(tactic| first|(refine' Ly ?a ?b ?c ?d ?e ?f;(case a=>rfl);(case b=>walk_at "vis");(case c=>rfl);(case d=>decide);(case e=>decide);(case f=>walk_at "da"))|(refine' Dd ?a ?b ?c;(case a=>rfl);(case b=>walk_at "dd");(case c=>walk_at "dal"))|fail)
local macro_rules | `(tactic| walk_at "dq")=>`(tactic| first|fail)
local macro_rules | `(tactic| walk_at "do")=>`(tactic| first|exact Ke|(refine' Np ?a;(case a=>walk_at "dd"))|fail)
local macro_rules | `(tactic| walk_at "dg")=>`(tactic| first|(refine' F7 ?a ?b ?c ?d;(case a=>walk_at "nd");(case b=>rfl);(case c=>walk_at "loc");(case d=>walk_at "fn"))|(refine' Fh ?a ?b ?c ?d;(case a=>rfl);(case b=>rfl);(case c=>rfl);(case d=>walk_at "dgs"))|fail)
local macro_rules | `(tactic| walk_at "dgs")=>`(tactic| first|exact Ks|(refine' Nn ?a ?b ?c;(case a=>rfl);(case b=>walk_at "dg");(case c=>walk_at "dgs"))|fail)
local macro_rules | `(tactic| walk_at "dit")=>`(tactic| first|(refine' NN ?a ?b ?c ?d;(case a=>rfl);(case b=>assumption);(case c=>rfl);(case d=>walk_at "da"))|(refine' dn.alt ?a ?b;(case a=>(refine' Lq ?c;(case c=>walk_at "dd")));(case b=>(refine' Ga ?c;(case c=>walk_at "dd"))))|fail)
local macro_rules | `(tactic| walk_at "dfs")=>`(tactic| first|exact MA|(refine' GJ ?a;(case a=>walk_at "dt"))|fail)
local macro_rules | `(tactic| walk_at "dd0")=>`(tactic| first|exact Lo|exact HX|exact J5|(refine' OH ?a ?b ?c ?d;(case a=>rfl);(case b=>walk_at "vis");(case c=>decide);(case d=>decide))|(refine' HF ?a ?b ?c;(case a=>assumption);(case b=>rfl);(case c=>decide))|(refine' K5 ?a ?b ?c ?d ?e ?f ?g;(case a=>rfl);(case b=>walk_at "vis");(case c=>exact ky (by assumption));(case d=>decide);(case e=>decide);(case f=>exact λ_ _=>rfl);(case g=>walk_at "dd"))|(refine' Fq ?a ?b ?c ?d;(case a=>exact ky (by assumption));(case b=>exact λ_ _=>rfl);(case c=>walk_at "dd");(case d=>walk_at "dd"))|(refine' KR ?a;(case a=>walk_at "da"))|(refine' Hc ?a;(case a=>walk_at "dd"))|(refine' HJ ?a ?b;(case a=>walk_at "dd");(case b=>walk_at "dd"))|(refine' M4 ?a ?b;(case a=>walk_at "dd");(case b=>walk_at "dd"))|(refine' DK ?a;(case a=>walk_at "dd"))|(refine' L6 ?m ?a ?b ?c;(case m=>rfl);(case a=>walk_at "dd");(case b=>walk_at "dd");(case c=>walk_at "dd"))|(refine' Gb ?a ?b ?c ?d ?e ?f;(case a=>rfl);(case b=>walk_at "vis");(case c=>rfl);(case d=>assumption);(case e=>decide);(case f=>decide))|(refine' OO ?a ?b ?c ?d ?e ?f;(case a=>rfl);(case b=>assumption);(case c=>rfl);(case d=>assumption);(case e=>rfl);(case f=>walk_at "dd"))|(refine' FQ ?a ?b ?c ?d ?e ?f;(case a=>rfl);(case b=>assumption);(case c=>rfl);(case d=>assumption);(case e=>rfl);(case f=>walk_at "dd"))|(refine' Jp ?a ?b ?c ?d ?e ?f;(case a=>rfl);(case b=>assumption);(case c=>rfl);(case d=>assumption);(case e=>rfl);(case f=>walk_at "dd"))|(refine' ME ?a ?b ?c ?d ?e;(case a=>rfl);(case b=>rfl);(case c=>rfl);(case d=>rfl);(case e=>walk_at "dd"))|fail)
local macro_rules | `(tactic| walk_at "dd")=>`(tactic| first|walk_at "dd0"|(refine' DE.dd ?a;(case a=>walk_at "de0"))|fail)
local macro_rules | `(tactic| walk_at "de0")=>`(tactic| first|(refine' F3 ?a ?b;(case a=>walk_at "dd");(case b=>walk_at "dd"))|(refine' MY ?a ?b;(case a=>walk_at "dd");(case b=>walk_at "dd"))|(refine' DE.alt ?x ?y;(case x=>(refine' Ol ?a ?b;(case a=>walk_at "dd");(case b=>walk_at "dd")));(case y=>(refine' Lc ?a ?b;(case a=>walk_at "dd");(case b=>walk_at "dd"))))|(refine' LS ?a ?b;(case a=>walk_at "dd");(case b=>walk_at "dd"))|(refine' Mq ?a ?b;(case a=>walk_at "dd");(case b=>walk_at "dd"))|(refine' J7 ?a ?b;(case a=>walk_at "dd");(case b=>walk_at "dd"))|(refine' Dy ?u ?a ?b;(case u=>exact sg (by assumption));(case a=>walk_at "dd");(case b=>walk_at "dd"))|(refine' Ee ?u ?a ?b;(case u=>exact sg (by assumption));(case a=>walk_at "dd");(case b=>walk_at "dd"))|(refine' G4 ?a ?b;(case a=>walk_at "dd");(case b=>walk_at "dd"))|(refine' Ep ?a ?b;(case a=>walk_at "dd");(case b=>walk_at "dd"))|(refine' Ji ?u ?m ?a ?b;(case u=>exact oB (by assumption));(case m=>rfl);(case a=>walk_at "dd");(case b=>walk_at "dd"))|(refine' Hl ?a;(case a=>walk_at "da"))|(refine' Lu ?a ?b ?c;(case a=>walk_at "dd");(case b=>walk_at "do");(case c=>walk_at "do"))|(refine' IK ?l ?n ?x ?kb ?j ?a ?b ?c ?d ?e ?f ?g ?h;(case l=>assumption);(case n=>assumption);(case x=>rfl);(case kb=>rfl);(case j=>rfl);(case a=>rfl);(case b=>exact p5 (by rfl));(case c=>rfl);(case d=>exact λ_=>rfl);(case e=>walk_at "dit");(case f=>(intro _ _ _ _ _;walk_at "dg"));(case g=>(intro _ _ _ _ _;walk_at "dfs"));(case h=>(intro _ _ _ _ _;walk_at "dd")))|(refine' BQ ?n ?x ?a ?b ?c ?d ?e ?f ?g ?h;(case n=>assumption);(case x=>rfl);(case a=>rfl);(case b=>exact p5 (by rfl));(case c=>rfl);(case d=>exact λ_=>rfl);(case e=>walk_at "dit");(case f=>(intro _ _ _ _ _;walk_at "dg"));(case g=>(intro _ _ _ _ _;walk_at "dfs"));(case h=>(intro _ _ _ _ _;walk_at "dd")))|(refine' Hn ?h ?g ?r ?d ?e ?f ?a;(case h=>assumption);(case g=>rfl);(case r=>walk_at "room");(case d=>decide);(case e=>rfl);(case f=>rfl);(case a=>walk_at "da"))|(refine' KH ?h ?g ?r ?d ?e ?f ?a;(case h=>assumption);(case g=>rfl);(case r=>walk_at "room");(case d=>decide);(case e=>rfl);(case f=>rfl);(case a=>walk_at "dal"))|(refine' Ak ?x ?y ?a ?b ?c ?d;(case x=>rfl);(case y=>rfl);(case a=>rfl);(case b=>assumption);(case c=>rfl);(case d=>walk_at "da"))|(refine' JT ?a ?b ?c ?d;(case a=>rfl);(case b=>assumption);(case c=>rfl);(case d=>walk_at "da"))|(refine' EA ?a ?b ?c ?d;(case a=>rfl);(case b=>assumption);(case c=>rfl);(case d=>walk_at "da"))|(refine' KA ?z ?a ?b ?c ?d;(case z=>rfl);(case a=>rfl);(case b=>assumption);(case c=>rfl);(case d=>walk_at "da"))|fail)
local macro_rules | `(tactic| walk_at "de")=>`(tactic| first|walk_at "de0"|(refine' DD.de ?a;(case a=>walk_at "dd0"))|fail)
local macro_rules | `(tactic| walk_at "dw")=>`(tactic| first|(refine' GW ?a;(case a=>walk_at "dt"))|(refine' OD ?a;(case a=>walk_at "dt"))|(refine' Fs ?a ?b;(case a=>walk_at "dt");(case b=>walk_at "dw"))|(refine' Fb ?a ?b;(case a=>walk_at "dt");(case b=>walk_at "dw"))|fail)
local macro_rules | `(tactic| walk_at "dt")=>`(tactic| first|(refine' DN ?u ?a ?b;(case u=>exact sg (by assumption));(case a=>walk_at "dd");(case b=>walk_at "dd"))|(refine' Kh ?u ?a ?b;(case u=>exact sg (by assumption));(case a=>walk_at "dd");(case b=>walk_at "dd"))|(refine' IL ?a ?b;(case a=>walk_at "dd");(case b=>walk_at "dd"))|(refine' DH ?a ?b;(case a=>walk_at "dd");(case b=>walk_at "dd"))|(refine' OE ?a ?b;(case a=>walk_at "dd");(case b=>walk_at "dd"))|(refine' Im ?u ?m ?a ?b;(case u=>exact oB (by assumption));(case m=>rfl);(case a=>walk_at "dd");(case b=>walk_at "dd"))|(refine' ND ?u ?m ?a ?b;(case u=>exact oB (by assumption));(case m=>rfl);(case a=>walk_at "dd");(case b=>walk_at "dd"))|(refine' Hy ?m ?a ?b ?c;(case m=>rfl);(case a=>walk_at "dd");(case b=>walk_at "dd");(case c=>walk_at "dd"))|(refine' FC ?a;(case a=>walk_at "dt"))|(refine' DW.dt ?a;(case a=>walk_at "dw"))|(refine' Nm ?a ?b;(case a=>exact λ_=>rfl);(case b=>walk_at "dd"))|fail)
local macro_rules | `(tactic| walk_at "dst")=>`(tactic| first|(refine' Hr ?a;(case a=>first | (refine' FN ?a ?b ?c ?d;(case a=>rfl);(case b=>walk_at "vis");(case c=>decide);(case d=>decide)) | walk_at "de"))|(refine' wG ?n ?a ?b ?c ?d ?e;(case n=>walk_at "nd");(case a=>rfl);(case b=>walk_at "loc");(case c=>walk_at "fn");(case d=>rfl);(case e=>walk_at "de"))|(refine' NL ?n ?x ?a ?b ?c ?sw ?k ?l ?m ?o ?e ?f ?g ?h;(case n=>assumption);(case x=>rfl);(case a=>rfl);(case b=>walk_at "loc");(case c=>walk_at "fn");(case sw=>rfl);(case k=>rfl);(case l=>exact p5 (by rfl));(case m=>rfl);(case o=>exact λ_=>rfl);(case e=>walk_at "dit");(case f=>(intro _ _ _ _ _;walk_at "dg"));(case g=>(intro _ _ _ _ _;walk_at "dfs"));(case h=>(intro _ _ _ _ _;walk_at "dd")))|(refine' cp.alt ?x ?y;(case x=>(refine' G9 ?a ?b ?c ?d ?e ?f ?g ?h ?j ?k;(case a=>rfl);(case b=>walk_at "vis");(case c=>decide);(case d=>decide);(case e=>exact λ_=>rfl);(case f=>rfl);(case g=>rfl);(case h=>rfl);(case j=>walk_at "dd");(case k=>walk_at "dd")));(case y=>(refine' JN ?a ?b ?c ?d ?e ?f ?g ?h;(case a=>rfl);(case b=>walk_at "vis");(case c=>exact ky (by assumption));(case d=>decide);(case e=>decide);(case f=>rfl);(case g=>walk_at "dd");(case h=>walk_at "dd"))))|(refine' Nd ?a ?b ?c ?d ?e;(case a=>rfl);(case b=>rfl);(case c=>rfl);(case d=>walk_at "dd");(case e=>walk_at "dg"))|(refine' Gw ?a ?b ?c ?d ?e ?f ?g ?h ?i ?j;(case a=>rfl);(case b=>walk_at "vis");(case c=>decide);(case d=>decide);(case e=>rfl);(case f=>rfl);(case g=>rfl);(case h=>rfl);(case i=>rfl);(case j=>walk_at "da"))|(refine' Kq ?a ?b ?c ?d ?e ?f;(case a=>exact WQ);(case b=>rfl);(case c=>exact λ_=>rfl);(case d=>walk_at "dit");(case e=>walk_at "dg");(case f=>walk_at "ds"))|(refine' Ct ?a ?b ?c;(case a=>walk_at "dt");(case b=>walk_at "ds");(case c=>walk_at "ds"))|fail)
local macro_rules | `(tactic| walk_at "ds")=>`(tactic| first|exact AO|(refine' CP ?a ?b;(case a=>walk_at "dst");(case b=>walk_at "ds"))|fail)
local macro_rules | `(tactic| walk_at "cmp")=>`(tactic| first|exact kW|(refine' fK ?a;(case a=>first | assumption | rfl))|(refine' zC ?a;(case a=>simp[eh, *];done))|(refine' j9 ?a;(case a=>simp[iA,eh, *];done))|(refine' qH ?a;(case a=>simp[iA,eh, *];done))|fail)
local macro_rules | `(tactic| walk_at "bb")=>`(tactic| first|rfl|assumption|(simp[kh,ig,nX,kZ,gu,rK, *];done)|(simp[kh,ig,nX,kZ,gu];omega)|decide +kernel|fail)
local macro_rules | `(tactic| walk_at "op")=>`(tactic| first|with_reducible assumption|(refine' jY ?a;(case a=>first | rfl | assumption | (simp[*];done)))|exact yj|(refine' o5 ?a ?b;(case a=>first | assumption | rfl | decide +kernel);(case b=>first | assumption | rfl | decide +kernel))|(refine' v_eq ?a ?b;(case a=>walk_at "cmp");(case b=>walk_at "cmp"))|(refine' mK ?a ?b;(case a=>walk_at "cmp");(case b=>walk_at "cmp"))|(refine' m6 ?a;(case a=>first | assumption | (simp[bg];done)))|(refine' dW ?a;(case a=>first | assumption | (simp[bg];done)))|exact rfl|fail)
local macro_rules | `(tactic| walk_at "fin")=>`(tactic| first|with_reducible assumption|((with_reducible refine' DM ?a);(case a=>walk_at "bb"))|((with_reducible refine' D4 ?a);(case a=>walk_at "bb"))|exact rfl|fail)
local macro_rules | `(tactic| walk_at "pick")=>`(tactic| first|(refine' ui ?p ?q;(case p=>walk_at "bb");(case q=>walk_at "ev"))|(refine' sZ ?p ?q;(case p=>walk_at "bb");(case q=>walk_at "ev"))|fail)
local macro_rules | `(tactic| walk_at "ev")=>`(tactic| first|with_reducible assumption|with_reducible exact ao|((with_reducible refine' ag ?p ?q);(case p=>walk_at "ev");(case q=>walk_at "ev"))|((with_reducible refine' iY ?p ?q);(case p=>walk_at "ev");(case q=>first | ((with_reducible refine' Nw ?u ?v);(case u=>exact rfl);(case v=>exact rfl)) | with_reducible exact O2 | ((with_reducible refine' iG ?w);(case w=>walk_at "ev"))))|((with_reducible refine' v7 ?p ?q);(case p=>walk_at "ev");(case q=>walk_at "pick"))|((with_reducible refine' sO ?p);(case p=>walk_at "ev"))|((with_reducible refine' oZ ?p ?q);(case p=>walk_at "ev");(case q=>walk_at "fin"))|((with_reducible refine' Ck ?p ?q);(case p=>walk_at "ev");(case q=>walk_at "fin"))|((with_reducible refine' kG ?p);(case p=>walk_at "ev"))|((with_reducible refine' v_and ?p ?q);(case p=>walk_at "ev");(case q=>walk_at "pick"))|((with_reducible refine' hV ?p ?q);(case p=>walk_at "ev");(case q=>walk_at "ev"))|((with_reducible refine' v_or ?p ?q);(case p=>walk_at "ev");(case q=>walk_at "pick"))|((with_reducible refine' ng ?p ?q);(case p=>walk_at "ev");(case q=>walk_at "ev"))|((with_reducible refine' lj ?p);(case p=>walk_at "ev"))|((with_reducible refine' fV ?p ?q);(case p=>walk_at "ev");(case q=>walk_at "fin"))|((with_reducible refine' bq ?p);(case p=>walk_at "ev"))|((with_reducible refine' tU ?p ?q);(case p=>walk_at "ev");(case q=>walk_at "ev"))|((with_reducible refine' Cc ?p ?q);(case p=>walk_at "ev");(case q=>walk_at "ev"))|((with_reducible refine' v_res ?p);(case p=>walk_at "ev"))|((with_reducible refine' ak ?p ?q);(case p=>walk_at "ev");(case q=>first | with_reducible exact M7 | with_reducible exact Mp | exact rfl))|((with_reducible refine' au ?p ?q ?r);(case p=>walk_at "ev");(case q=>walk_at "ev");(case r=>walk_at "op"))|((with_reducible refine' rT ?p ?q);(case p=>walk_at "ev");(case q=>walk_at "fin"))|((with_reducible refine' aP ?p ?q);(case p=>walk_at "ev");(case q=>walk_at "fin"))|((with_reducible refine' cZ ?o ?p ?q ?r ?s);(case o=>exact rfl);(case p=>walk_at "ev");(case q=>exact rfl);(case r=>walk_at "fin");(case s=>exact rfl))|((with_reducible refine' dz ?p ?q);(case p=>walk_at "ev");(case q=>first | assumption | (simp[bg];done)))|((with_reducible refine' il ?p ?q);(case p=>walk_at "ev");(case q=>first | assumption | (simp[bg];done)))|((with_reducible refine' kU ?p ?q ?r);(case p=>walk_at "ev");(case q=>walk_at "ev");(case r=>walk_at "fin"))|((with_reducible refine' eO ?p ?q ?r ?s);(case p=>exact rfl);(case q=>walk_at "ev");(case r=>exact rfl);(case s=>walk_at "fin"))|((with_reducible refine' dZ ?p ?q);(case p=>exact rfl);(case q=>walk_at "fin"))|((with_reducible refine' Dx ?p);(case p=>walk_at "ev"))|((with_reducible refine' xP ?p ?q ?r ?s ?t);(case p=>walk_at "ev");(case q=>walk_at "ev");(case r=>walk_at "op");(case s=>walk_at "ev");(case t=>walk_at "op"))|((with_reducible refine' GG ?p ?q ?r ?s ?t ?u);(case p=>walk_at "ev");(case q=>exact rfl);(case r=>walk_at "ev");(case s=>exact rfl);(case t=>walk_at "fin");(case u=>exact rfl))|((with_reducible refine' l9 ?p);(case p=>walk_at "ev"))|((with_reducible refine' ug ?p ?q);(case p=>exact rfl);(case q=>walk_at "ev"))|exact rfl|fail)
local macro_rules | `(tactic| walk_at "dstx")=>`(tactic| first|(refine' cp.calm ?a;(case a=>walk_at "dst"))|(refine' Ct ?a ?b ?c;(case a=>walk_at "dt");(case b=>walk_at "dsx");(case c=>walk_at "dsx"))|fail)
local macro_rules | `(tactic| walk_at "dsx")=>`(tactic| first|exact AO|(refine' CP ?a ?b;(case a=>walk_at "dstx");(case b=>walk_at "dsx"))|fail)
local macro_rules | `(tactic| walk_at "w")=>`(tactic| repeat (first|(with_reducible refine' aj ?_)|(with_reducible refine' aq ?_)|(with_reducible refine' gH ?_)|(with_reducible refine' o6 ?_)|((with_reducible refine' aJ ?p ?q ?_);(case p=>walk_at "ev");(case q=>exact rfl))|((with_reducible refine' tL ?p ?q ?_);(case p=>walk_at "ev");(case q=>exact rfl))|((with_reducible refine' oM ?p ?_);(case p=>walk_at "ev"))|((with_reducible refine' bZ ?p ?_);(case p=>walk_at "ev"))|(with_reducible refine' bf ?_)|fail))
local macro_rules | `(tactic| walk_at "wb")=>`(tactic| first|((with_reducible refine' Cr ?p ?_);(case p=>walk_at "ev"))|fail)
local macro_rules | `(tactic| walk_at "wif")=>`(tactic| ((with_reducible refine' By ?_);walk_at "wb"))
local macro_rules | `(tactic| walk_at "dd0")=>`(tactic| (refine' O0 ?c ?n ?b ?a;(case c=>assumption);(case n=>assumption);(case b=>rfl);(case a=>walk_at "dd")))
local macro_rules | `(tactic| walk_at "de0")=>`(tactic| (refine' OX ?c ?h ?r ?t ?a;(case c=>assumption);(case h=>assumption);(case r=>walk_at "room");(case t=>rfl);(case a=>walk_at "dd")))
local macro_rules | `(tactic| walk_at "dsk")=>`(tactic| first|fail)
local macro_rules | `(tactic| walk_at "dskc")=>`(tactic| first|fail)
namespace bW
section
variable {P:hJ}{w:kq}{K:gj}{mg:eT->Option b8}{base:m3}
noncomputable def O3:aQ
 | [.tup [_,.int x,.int y,.int r,.int t]]=>if dU (r - x) (t - y)=true then some (.dat (.int ((r - x) * (t - y)))) else none
 | _=>none
noncomputable def fA:dM
 | .lst [.int a,.int b],[.int m]=>if 0 < m/\m.natAbs.log2 < 9000 then some (if a=0 then (.dat (.int (b % m)),.lst [.int 0,.int (b / m)]) else (.dat (.int (a % m)),.lst [.int (a / m),.int b])) else none
 | _,_=>none
def NM (T:Txt mg)(F:L2.bA K "_law_take" "_law_take" ue f g):aV P w K mg base aX 1 f g ["_law_purse_here","_law_many"] (cV K 0 fA):=by
 refine' Be (j:=0) F B9 ?B ?C ?D
 case B =>
  intro c ds r h;unfold fA at h;split at h
  ·rfl
  ·cases h
 case C =>
  intro cdv A outer s H E hr;have nd:=B9.nd;cases T;have lk:kP "_law_purse_here":=⟨trivial⟩
  walk_at "ds"
 case D =>
  clear T F;intro c ds r h;unfold fA at h;split at h
  ·split at h
   ·rename_i a b m d;cases h;have hd:nN a m=true:=by unfold nN;simpa using d
    have hd':nN b m=true:=by unfold nN;simpa using d
    have hm':=d.1
    by_cases i:a=0
    ·subst i;refine' vt ?e ?k
     case e=>walk_at "ev"
     case k=>rfl
    ·rw[if_neg i];refine' vt ?e ?k
     case e=>walk_at "ev"
     case k=>rfl
   ·cases h
  ·cases h
def intBits_le (h:i.natAbs < 2 ^ n):pB i<=n:=by
 unfold pB;split
 ·omega
 ·rename_i z;have:=(W8 (n:=i.natAbs) (k:=n) (by intro e;exact z (by simpa using e))).mpr h
  omega
def iX (h:j.natAbs < 2 ^ 64):dU i j=true:=by
 have:=intBits_le h;unfold dU Vh;rw[show decide (pB j > 64)=false from decide_eq_false (by omega)]
 simp
def Mt (h:i.natAbs < 2 ^ 64):dU i j=true:=by
 have:=intBits_le h;unfold dU Vh;rw[show decide (pB i > 64)=false from decide_eq_false (by omega)]
 simp
noncomputable def qO (k:Int) (s:Int×Int):Int×Int:=let n:=(s.1 * s.1 + 48271 * k * k + k + 3) % 2147483629;(n,s.2 * 2147483587 + n * n % 2147483587)
noncomputable def B3:List Int:=(lp 24).map λk:Nat=>0 + (k:Int)
noncomputable def AD (c:Int):Int:=(B3.foldl (λs k=>qO k s) (c % 2147483647,1)).2
noncomputable def l7:aQ
 | [.int c]=>some (.own (.lst [.int (if c ≥ 10 ^ 18 then c - 10 ^ 18 else 0),.int (AD c)]))
 | _=>none
def Az (h:x∈eY 0 n):∃k:Int,x=.int k/\0<=k/\k < n:=by
 unfold eY at h;obtain⟨j,a,rfl⟩:=a9.mp h;have:=Uh.mp a;exact⟨_,rfl,by omega,by omega⟩
noncomputable abbrev C3 (c:Int) (s:Int×Int×Option Dat):DS:=[Slot.dat (.int c),.dat (.int s.1),.dat (.int s.2.1),match s.2.2 with | none=>.no | some d=>.dat d]
noncomputable def rS (x:Dat) (s:Int×Int×Option Dat):Int×Int×Option Dat:=match x with | .int k=>((qO k (s.1,s.2.1)).1,(qO k (s.1,s.2.1)).2,some x) | _=>s
theorem BW:∀(c:List Int) (a b:Int) (o:Option Dat),((((c.map Dat.int).foldl (λs x=>rS x s) (a,b,o)).2).1)=(c.foldl (λs k=>qO k s) (a,b)).2
 | [],_,_,_=>rfl
 | k::c,a,b,o=>by
  rw[gi,UX,UX];exact BW c _ _ _
def Es (c):AD c=((eY 0 24).foldl (λs x=>rS x s) (c % 2147483647,1,none)).2.1:=(BW B3 _ _ _).symm
def LY (T:Txt mg)(F:L2.bA K "_law_purse" "_law_purse" tf f m):aV P w K mg base aX 1 f m ["_law_cell"] (aF K l7):=by
 refine' A1 F As ?B ?S ?U
 case B =>
  intro ds r h;unfold l7 at h;split at h
  ·rfl
  ·cases h
 case S =>
  intro cdv A outer s H E hr;have nd:=As.nd;cases T;have lk:kP "_law_purse_here":=⟨trivial⟩
  walk_at "ds"
 case U =>
  clear T F;intro ds r h;unfold l7 at h;split at h
  ·rename_i c;cases h;rw[Es]
   by_cases n:c ≥ 10 ^ 18
   ·rw[if_pos n];refine' tD ?e
    case e =>
     refine' iY ?C ?D
     case C=>walk_at "ev"
     case D =>
      refine' iG ?G
      case G =>
       refine' iY ?I ?J
       case I=>walk_at "ev"
       case J =>
        refine' iG ?L
        case L =>
         refine' iY ?M ?N
         case M =>
          refine' uj ?O ?Q
          case O=>exact rfl
          case Q =>
           refine' (wQ (C3 c) rS (λs=>0<=s.1/\s.1 < 2147483647) _ (c % 2147483647,1,none) ⟨by omega,by omega⟩ ?st).2
           case st =>
            intro x hx s i;obtain⟨k,rfl,p,q⟩:=Az hx;obtain⟨a,b,o⟩:=s;obtain⟨j,l⟩:=i;have t:dU a a=true:=iX (by dsimp only at j l;omega)
            have u:dU 48271 k=true:=iX (by omega)
            have v:dU (48271 * k) k=true:=iX (by omega)
            have y:dU b 2147483587=true:=iX (by decide)
            have n1:0<=(a * a + 48271 * k * k + k + 3) % 2147483629:=T' _ (by decide)
            have n2:(a * a + 48271 * k * k + k + 3) % 2147483629 < 2147483629:=TB _ (by decide)
            have z:dU ((a * a + 48271 * k * k + k + 3) % 2147483629) ((a * a + 48271 * k * k + k + 3) % 2147483629)=true:=iX (by omega)
            refine'⟨⟨n1,WN n2 (by decide)⟩,?g⟩
            case g =>
             cases o with
             | none=>exact⟨_,rfl,by walk_at "ev"⟩
             | some d=>exact⟨_,rfl,by walk_at "ev"⟩
         case N =>
          refine' iG ?R
          case R=>walk_at "ev"
   ·rw[if_neg n];refine' tD ?e
    case e =>
     refine' iY ?C ?D
     case C=>walk_at "ev"
     case D =>
      refine' iG ?G
      case G =>
       refine' iY ?I ?J
       case I=>walk_at "ev"
       case J =>
        refine' iG ?L
        case L =>
         refine' iY ?M ?N
         case M =>
          refine' uj ?O ?Q
          case O=>exact rfl
          case Q =>
           refine' (wQ (C3 c) rS (λs=>0<=s.1/\s.1 < 2147483647) _ (c % 2147483647,1,none) ⟨by omega,by omega⟩ ?st).2
           case st =>
            intro x hx s i;obtain⟨k,rfl,p,q⟩:=Az hx;obtain⟨a,b,o⟩:=s;obtain⟨j,l⟩:=i;have t:dU a a=true:=iX (by dsimp only at j l;omega)
            have u:dU 48271 k=true:=iX (by omega)
            have v:dU (48271 * k) k=true:=iX (by omega)
            have y:dU b 2147483587=true:=iX (by decide)
            have n1:0<=(a * a + 48271 * k * k + k + 3) % 2147483629:=T' _ (by decide)
            have n2:(a * a + 48271 * k * k + k + 3) % 2147483629 < 2147483629:=TB _ (by decide)
            have z:dU ((a * a + 48271 * k * k + k + 3) % 2147483629) ((a * a + 48271 * k * k + k + 3) % 2147483629)=true:=iX (by omega)
            refine'⟨⟨n1,WN n2 (by decide)⟩,?g⟩
            case g =>
             cases o with
             | none=>exact⟨_,rfl,by walk_at "ev"⟩
             | some d=>exact⟨_,rfl,by walk_at "ev"⟩
         case N =>
          refine' iG ?R
          case R=>walk_at "ev"
  ·cases h
end
end bW
namespace bW
structure aZ (x:eT):Prop where
 lQ:x.cps.all (· < 128)=true
 len:x.length<=99
def BK (h:x.cps.all (· < 128)=true):pe x=true:=by
 unfold pe;rw[z7] at h ⊢;intro c a;have:=h c a;simp only[decide_eq_true_eq] at this ⊢;omega
def aZ.ok (h:aZ x):pe x=true:=BK h.lQ
noncomputable def pD (p:Int×Int):Dat:=.lst [.int p.1,.int p.2]
noncomputable def aT (p:Int×Int) (m:Int):Int:=if p.1=0 then p.2 % m else p.1 % m
noncomputable def cE (p:Int×Int) (m:Int):Int×Int:=if p.1=0 then (0,p.2 / m) else (p.1 / m,p.2)
def e8 (p) (m) (h:0 < m/\m.natAbs.log2 < 9000):fA (pD p) [.int m]=some (.dat (.int (aT p m)),pD (cE p m)):=by
 unfold fA pD aT cE;dsimp only;rw[if_pos h];split <;> rfl
def eX (p)(h:0 < m):0<=aT p m/\aT p m < m:=by
 unfold aT;split
 ·exact⟨T' _ (by omega),TB _ h⟩
 ·exact⟨T' _ (by omega),TB _ h⟩
def pY {m:Int}(h:m.natAbs < 2 ^ 9000):m.natAbs.log2 < 9000:=by
 by_cases z:m.natAbs=0
 ·rw[z];decide
 ·exact (W8 z).mpr h
def mG (ds) (i):dv (.lst ds) (.int i)=eN ds i:=rfl
end bW
namespace bW
noncomputable def fP (c:Nat):Bool:=decide (97<=c) && decide (c<=122)
noncomputable def dr (x:eT):Bool:=decide (x="north") || decide (x="east") || decide (x="south") || decide (x="west")
noncomputable def dq (x:eT):Bool:=decide (0 < x.length) && decide (x.length < 9) && x.cps.toList.all fP && !dr x
def Fx (c):((!decide (([c]:List Nat) < [97])) && !decide (([122]:List Nat) < [c]))=fP c:=by
 unfold fP;have a:decide (([c]:List Nat) < [97])=decide (c < 97):=by
  apply sb.mpr;simp[WM]
 have b:decide (([122]:List Nat) < [c])=decide (122 < c):=by
  apply sb.mpr;simp[WM]
 rw[a,b]
 by_cases d:97<=c <;> by_cases e:c<=122 <;> simp[d,e] <;> omega
def xB (h:aZ x):x.length<=sizeLine:=pA h.len (by unfold bg;decide)
def Bs {x:eT}(hx:pe x=true) {ys:List eT}(c:∀y∈ys,pe y=true) (a:Bool):gC a (.str x) (.lst (ys.map .str))=some (.dat (.bl (if a then !(ys.any λy=>decide (y=x)) else ys.any λy=>decide (y=x)))):=by
 have f:bB (.lst (ys.map .str))=true:=j9 (by
  show (ys.map Dat.str).all eh=true;rw[j4];intro d hd;obtain⟨y,b,rfl⟩:=a9.mp hd;exact c y b)
 show (if (bB (.str x) && bB (.lst (ys.map .str)))=true then some (Res.dat (.bl (if a then !inD (.str x) (ys.map .str) else inD (.str x) (ys.map .str)))) else none)=_
 rw[fK hx,f];have e:inD (.str x) (ys.map .str)=ys.any λy=>decide (y=x):=by
  rw[rK,Ww];apply congrArg;funext y;exact ig y x
 rw[e];rfl
def Ew {x:eT}(hx:pe x=true) {ys:List eT}(c:∀y∈ys,pe y=true) (a:Bool):gC a (.str x) (.tup (ys.map .str))=some (.dat (.bl (if a then !(ys.any λy=>decide (y=x)) else ys.any λy=>decide (y=x)))):=by
 have f:bB (.tup (ys.map .str))=true:=j9 (by
  show (ys.map Dat.str).all eh=true;rw[j4];intro d hd;obtain⟨y,b,rfl⟩:=a9.mp hd;exact c y b)
 show (if (bB (.str x) && bB (.tup (ys.map .str)))=true then some (Res.dat (.bl (if a then !inD (.str x) (ys.map .str) else inD (.str x) (ys.map .str)))) else none)=_
 rw[fK hx,f];have e:inD (.str x) (ys.map .str)=ys.any λy=>decide (y=x):=by
  rw[rK,Ww];apply congrArg;funext y;exact ig y x
 rw[e];rfl
noncomputable def walls:List Str:=["north","east","south","west"]
def xR:∀y∈walls,pe y=true:=by decide +kernel
def qz (x):(walls.any λy=>decide (y=x))=dr x:=by
 unfold walls dr;simp only[I9,List.any_nil,Yn,eq_comm (a:=x),Bool.or_assoc]
def Nu (hx:pe x=true)(a):gC a (.str x) (.lst [.str "north",.str "east",.str "south",.str "west"])=some (.dat (.bl (if a then !dr x else dr x))):=by
 have:=Bs hx xR a;rw[qz] at this;exact this
def me (hx:pe x=true)(a):gC a (.str x) (.tup [.str "north",.str "east",.str "south",.str "west"])=some (.dat (.bl (if a then !dr x else dr x))):=by
 have:=Ew hx xR a;rw[qz] at this;exact this
section
variable {P:hJ}{w:kq}{K:gj}{mg:eT->Option b8}{base:m3}
noncomputable def AE (fn:aQ):Prop:=∀x,aZ x->fn [.str x]=some (.dat (.bl (dq x)))
def ES (T:Txt mg) (m:fg K mg "WALLS" (.tup [.str "north",.str "east",.str "south",.str "west"])) (o:fg K mg "LONGEST_NAME" (.int 8))(F:L2.bA K "is_name" "is_name" vo f j):∃fn,aV P w K mg base aX 1 f j ["thing"] (aF K fn)/\AE fn:=by
 refine' ck F zg (n:=1) rfl ?C ?B
 case C =>
  intro cdv A outer s H E hr;have nd:=zg.nd;cases T
  walk_at "ds"
 case B =>
  clear T F m o;intro x tx;have iw:=me tx.ok false;have i1:kD (.str x) "str"=some true:=rfl;have hl:dH (.str x)=some x.length:=if_pos (xB tx);refine' cx rfl ?w
  case w =>
   show WS _ [.dat (.str x)] _
   walk_at "w"
   walk_at "wif"
   refine⟨λhw=>?_,λhw=>?_⟩
   ·have hw:dr x=true:=hw
    walk_at "w"
    refine kO ?_;unfold dq;rw[hw];simp
   ·have hw:dr x=false:=hw
    walk_at "w"
    walk_at "wif"
    refine⟨λb=>?_,λb=>?_⟩
    ·walk_at "w"
     refine kO ?_;unfold dq;simp at b;simp;intro k l;omega
    ·walk_at "w"
     refine' Lv (LN (Hu (xT (NK (Jj (λx=>[.no,.dat x]) (λ_=>true) (λd=>match d with | .str y=>.bl (y.cps.toList.all fP) | _=>.aK) (LI ?i tx.lQ) rfl ?z ?g ?c ?e ?n) (Gr ?q)))))
     case i=>walk_at "ev"
     case z=>rw[a8,m5];exact xB tx
     case g =>
      intro y a Z hd
      rcases hd with rfl | ⟨z,rfl⟩ <;> rfl
     case c=>intro y a;rfl
     case e =>
      intro y a _;obtain⟨c,p,rfl⟩:=a9.mp a;show iV gr gr (fC (.str "a")) (dF 1) (fC (.str "z")) [.no,.dat (.str ⟨#[c]⟩)]=some (.bl (([c]:List Nat).all fP),[.no,.dat (.str ⟨#[c]⟩)]);have r:gr (.str "a") (.str ⟨#[c]⟩)=some (.dat (.bl (!decide (([c]:List Nat) < [97])))):=rfl;have t:gr (.str ⟨#[c]⟩) (.str "z")=some (.dat (.bl (!decide (([122]:List Nat) < [c])))):=rfl;have:=xP (o1:=gr) (o2:=gr) (f:=fC (.str "a")) (g:=dF 1) (h:=fC (.str "z")) (Z:=[.no,.dat (.str ⟨#[c]⟩)]) rfl rfl r rfl t;rw[this,Fx];simp
     case n=>intro y a;rfl
     case q =>
      have e:((x.cps.toList.map λc=>Dat.str ⟨#[c]⟩).filter λ_=>true).map (λd=>match d with | .str y=>Dat.bl (y.cps.toList.all fP) | _=>Dat.aK)=x.cps.toList.map λc=>Dat.bl (fP c):=by
       rw[Xb.mpr (by intros;rfl),hA]
       apply Tt;intro c p;simp
      refine⟨.dat (.bl (dq x)),?_,_,rfl⟩;show nh [.lst _]=_;rw[e];show (gh _).map _=_;rw[qL];simp at b;have k:decide (0 < x.length)=true:=by simp;omega
      have l:decide (x.length < 9)=true:=by simp;omega
      simp[dq,hw,k,l,YE,Function.comp]
end
end bW
namespace bW
noncomputable abbrev Fl:=Hs.Fl eT
noncomputable def aG (x:eT×Hs.Ob):Dat:=.tup [.str x.1,.int x.2.l,.int x.2.b,.int x.2.r,.int x.2.t]
noncomputable def aH (rs:Fl):Dat:=.lst (rs.map aG)
end bW
namespace bW
section
variable {P:hJ}{w:kq}{K:gj}{mg:eT->Option b8}{base:m3}
def A2 (h:0<=i)(h':i < 26):dv (.str "abcdefghijklmnopqrstuvwxyz") (.int i)=some (.str ⟨#[97 + i.toNat]⟩):=by
 have key:∀j:Fin 26,(ec "abcdefghijklmnopqrstuvwxyz").cps.toList[j.val]? = some (97 + j.val):=by decide +kernel
 have hl:(ec "abcdefghijklmnopqrstuvwxyz").cps.toList.length=26:=by decide +kernel
 have e:=key ⟨i.toNat,by lia⟩
 have a:=mM e;dsimp only at a;rw[sr h] at a;show (if (ec "abcdefghijklmnopqrstuvwxyz").length<=bg then (eN (ec "abcdefghijklmnopqrstuvwxyz").cps.toList i).map (λc=>Dat.str ⟨#[c]⟩) else none)=_
 rw[if_pos (by rw[show (ec "abcdefghijklmnopqrstuvwxyz").length=26 from by decide +kernel];unfold bg;decide),a]
 rfl
def qU {n:Int}{k:Nat}{x:Dat}(h:(eY 0 n)[k]? = some x):(k:Int) < n/\x=.int k:=by
 have a:=(bc.mp h).1;unfold eY at a h;rw[cn] at h;simp only[a8,TL] at a;rw[W' a] at h;simp at h;exact⟨by lia,h.symm⟩
def pO (h:(Z[i]?).bind DV.ownOf=some (false,.lst xs))(a:fa Z=some ([d],Z))(b:xs.length < bg):gG i nr fa Z=some (.aK,Z.set i (.own (.lst (xs++[d])))):=by
 unfold gG;rw[h];show (fa Z).bind _=_;rw[a];show ((Z[i]?).bind DV.ownOf).bind _=_;rw[h];show (if xs.length < bg then some (Dat.aK,Dat.lst (xs++[d])) else none).map _=_
 rw[if_pos b];rfl
theorem join_one:∀cs:List Nat,(TM (ec "") (cs.map λc=>(⟨#[c]⟩:eT))).cps.toList=cs
 | []=>rfl
 | [c]=>rfl
 | c::d::r=>by
  have e:(ec "").cps=#[]:=by decide +kernel
  show ((⟨#[c]⟩:eT)++ec "" ++ TM (ec "") ((d::r).map λc=>(⟨#[c]⟩:eT))).cps.toList=_
  simp only[zd,zd,e,sj,join_one (d::r)];simp
def JZ (cs):(j5 (ec "") (cs.map λc=>(⟨#[c]⟩:eT))).cps.toList=cs:=by
 unfold j5;rw[Wi];exact join_one cs
theorem Ah (f):∀cs:List a,cH (cs.map λc=>.str (f c))=some (cs.map f)
 | []=>rfl
 | c::cs=>by
  simp only[gi,gi,cH,Ah f cs];rfl
theorem Mg (cs:List Nat):((cs.map λc=>(⟨#[c]⟩:eT)).map (·.length)).sum=cs.length:=by
 induction cs with
 | nil=>rfl
 | cons c cs a =>
  simp only[gi,gi,rp,a,fk];show 1 + _=_
  lia
structure jE (c:Nat) (x:eT):Prop where
 fst:x.cps.toList[0]? = some c
 lQ:∀a∈x.cps.toList,fP a=true
 len:x.cps.toList.length<=8
def jE.text (h:jE c x):aZ x:=⟨by
 rw[z7];intro a b;have:=h.lQ a (Th.mpr b);unfold fP at this;simp only[dV,decide_eq_true_eq,decide_eq_true_eq] at this;simp
 lia,by have:=h.len;simp only[m5] at this;exact pA this (by decide)⟩
noncomputable def jO (a:Int) (k:Nat):Nat:=97 + ((a + 7 * (k:Int)) % 26).toNat
def NA (hi:i < 12)(hj:j < 12)(h:jO a i=jO a j):i=j:=by
 unfold jO at h;omega
def yE {i:Int}(h:0<=i) (h':i < 26):fP (97 + i.toNat)=true:=by
 unfold fP;simp only[dV,decide_eq_true_eq,decide_eq_true_eq]
 lia
def jE.nm (h:jE c x)(hw:dr x=false):dq x=true:=by
 have b:=h.len;have a:=(bc.mp h.fst).1;simp only[m5] at b a;have b:x.length<=8:=b;have a:0 < x.length:=a;unfold dq;simp only[hw,decide_eq_true a,decide_eq_true (by lia:x.length < 9),j4.mpr h.lQ]
 rfl
theorem IY (x):dr (x++ec "x")=false:=by
 cases e:dr (x++ec "x") with
 | false=>rfl
 | true =>
  have key:∀y∈walls,y.cps.toList.getLast?≠some 120:=by decide +kernel
  have:(walls.any λy=>decide (y=x++ec "x"))=true:=by rw[qz];exact e
  obtain⟨y,a,e⟩:=j3.mp this;have e:y=x++ec "x":=by simpa using e
  refine absurd ?_ (key y a);simp only[e,zd,sj,show (ec "x").cps.toList=[120] from by decide +kernel]
  simp
noncomputable def GR (a:List eT):Prop:=a.length=12/\(∀x∈a,dq x=true)/\a.Nodup
noncomputable def xG (fn:dM):Prop:=∀p,∃r a,fn (pD p) []=some (r,a)/\∃b c,r=.own (.lst (b.map .str))/\a=pD c/\GR b
def LJ (T:Txt mg) (p1:bw P w K mg base "_law_take" 1 (cV K 0 fA))(F:L2.bA K "_law_names" "_law_names" wa f fd):∃fn,aV P w K mg base aX 2 f fd ["_law_purse_here"] (cV K 0 fn)/\xG fn:=by
 refine' mP (j:=0) F yQ (n:=0) rfl ?I ?post
 case I =>
  intro cdv A outer s H E hr;have nd:=yQ.nd;cases T;have lk:kP "_law_purse_here":=⟨trivial⟩
  walk_at "ds"
 case post =>
  clear T F p1;intro p;have V:=λq=>e8 q 26 ⟨by decide,pY (by decide)⟩
  have t8:=λq=>e8 q 8 ⟨by decide,pY (by decide)⟩
  have t1:=V p;refine' m8 rfl ?w
  case w =>
   show WS _ [.io (pD p),.no,.no,.no,.no,.no,.no,.no] _
   walk_at "w"
   refine' d7 (λk Z=>∃(q:Int×Int) (b:List eT) (B u t r:DV.Slot),Z=[.io (pD q),.dat (.str "abcdefghijklmnopqrstuvwxyz"),.dat (.int (aT p 26)),.own (.lst (b.map .str)),B,u,t,r]/\(∀s∈[B,u,t,r],s=.no\/∃d,s=.dat d)/\b.length=k/\∀j x,b[j]? = some x->jE (jO (aT p 26) j) x/\dr x=false) (oI (n:=12) ?i (by lia)) ?h0 ?st ?fin
   case i=>walk_at "ev"
   case h0 =>
    refine⟨_,[],.no,.no,.no,.no,rfl,by simp,rfl,?_⟩
    intro j x h;cases h
   case st =>
    rintro k x hx Z ⟨q,b,B,u,t,r,rfl,C,J,hw⟩;have hk:=qU hx;obtain⟨hk,rfl⟩:=hk;have h4:=C B (by simp)
    have h5:=C u (by simp)
    have h6:=C t (by simp)
    have h7:=C r (by simp)
    refine⟨[.io (pD q),.dat (.str "abcdefghijklmnopqrstuvwxyz"),.dat (.int (aT p 26)),.own (.lst (b.map .str)),.dat (.int k),u,t,r],by rcases h4 with rfl | ⟨d,rfl⟩ <;> rfl,?_⟩
    have t2:=t8 q;obtain⟨l0,l8⟩:=eX q (m:=8) (by decide)
    have key:WS (fW 5 (l3 fA 0 (dA (fC (.int 8)) iK))) [.io (pD q),.dat (.str "abcdefghijklmnopqrstuvwxyz"),.dat (.int (aT p 26)),.own (.lst (b.map .str)),.dat (.int k),u,t,r] (λo=>o=.next [.io (pD (cE q 8)),.dat (.str "abcdefghijklmnopqrstuvwxyz"),.dat (.int (aT p 26)),.own (.lst (b.map .str)),.dat (.int k),.dat (.int (aT q 8)),t,r]):=by
     refine' aJ (cZ rfl oX rfl t2 rfl) ?_ rfl
     rcases h5 with rfl | ⟨d,rfl⟩ <;> rfl
    refine' aj (key.mono ?_);rintro o rfl;refine' aq (aj ?_);refine' Lm (E2 (Km (xT ?_)));refine' E4 (xs:=eY 0 (aT q 8)) (c0:=pD (cE q 8)) (λk N Z=>∃(l:Int×Int) (O:DV.Slot) (cs:List Nat),Z=[.no,O,.dat (.str "abcdefghijklmnopqrstuvwxyz"),.io (pD l)]/\(O=.no\/∃d,O=.dat d)/\N=cs.map (λc=>.str ⟨#[c]⟩)/\cs.length=k/\∀c∈cs,fP c=true) (oI ?c1 ?c2) ?c3 ?c4 ?c5 ?c6 ?c7 ?c8 ?c9
    case c1=>exact rfl
    case c2=>omega
    case c3=>exact rfl
    case c4=>exact rfl
    case c5=>exact rfl
    case c6=>exact⟨_,_,[],rfl,.inl rfl,rfl,rfl,λc hc=>(by cases hc)⟩
    case c7=>unfold eY bg;simp only[a8,TL];omega
    case c8 =>
     rintro k1 x hx N Z ⟨l,O,cs,rfl,W,rfl,D,Q⟩;refine⟨[.no,.dat x,.dat (.str "abcdefghijklmnopqrstuvwxyz"),.io (pD l)],by rcases W with rfl | ⟨d,rfl⟩ <;> rfl,?_⟩
     refine' Cr rfl ⟨λh=>(by cases h),λ_=>?_⟩
     have t3:=V l;obtain⟨R,G⟩:=eX l (m:=26) (by decide)
     have ax:=A2 R G;refine' KG (eO (i:=2) rfl (ak (cZ rfl oX rfl t3 rfl) rfl) rfl ax) ⟨rfl,?_⟩;refine⟨cE l 26,_,cs++[97 + (aT l 26).toNat],rfl,.inr ⟨_,rfl⟩,by rw[f'];rfl,by rw[eJ,D];rfl,?_⟩
     intro c hc
     rcases ee.mp hc with z | z
     ·exact Q c z
     ·cases iR.mp z;exact yE R G
    case c9 =>
     rintro N Z ⟨l,O,cs,rfl,W,rfl,D,Q⟩;refine⟨pD l,rfl,_,cs.map (λc=>⟨#[c]⟩),rfl,Ah _ cs,⟨by decide +kernel,?_⟩,?_⟩
     ·simp only[Mg,a8,D];unfold eY;rw[a8,TL];omega
     ·have D:cs.length=(aT q 8).toNat:=by
       rw[D];unfold eY;rw[a8,TL]
       lia
      generalize O9:j5 (ec "") (cs.map λc=>(⟨#[c]⟩:eT))=g
      have X:g.cps.toList=cs:=by rw[<- O9];exact JZ cs
      refine⟨[.io (pD l),.dat (.str "abcdefghijklmnopqrstuvwxyz"),.dat (.int (aT p 26)),.own (.lst (b.map .str)),.dat (.int k),.dat (.int (aT q 8)),.dat (.str g),r],by rcases h6 with rfl | ⟨d,rfl⟩ <;> rfl,?_⟩
      have hm:dU 7 (k:Int)=true:=Mt (by decide)
      obtain⟨R,G⟩:0<=(aT p 26 + 7 * (k:Int)) % 26/\(aT p 26 + 7 * (k:Int)) % 26 < 26:=⟨T' _ (by decide),TB _ (by decide)⟩
      have ax:=A2 R G;have O':g.length=cs.length:=by simp only[<- X,m5];rfl
      have hz:(⟨#[97 + ((aT p 26 + 7 * (k:Int)) % 26).toNat]⟩:eT).length + g.length<=sizeLine:=by
       rw[O'];show 1 + _<=_;unfold bg;omega
      generalize Y:(⟨#[97 + ((aT p 26 + 7 * (k:Int)) % 26).toNat]⟩:eT)++g=name;have M:name.cps.toList=(97 + ((aT p 26 + 7 * (k:Int)) % 26).toNat)::cs:=by
       simp only[<- Y,zd,sj,X];rfl
      have ha:=m6 hz;rw[Y] at ha;have U:jE (jO (aT p 26) k) name:=by
       refine⟨by rw[M];rfl,?_,by simp only[M,fk];lia⟩
       intro a h;rw[M] at h
       rcases cR.mp h with z | z
       ·subst z;exact yE R G
       ·exact Q a z
      refine' aq (aj (aJ (Z2:=[.io (pD l),.dat (.str "abcdefghijklmnopqrstuvwxyz"),.dat (.int (aT p 26)),.own (.lst (b.map .str)),.dat (.int k),.dat (.int (aT q 8)),.dat (.str g),.dat (.str name)]) (au (eO (i:=1) rfl ?d1 ?d4 ax) ?d5 ha) ?d2 ?d3))
      case d1=>walk_at "ev"
      case d4=>exact rfl
      case d5=>exact rfl
      case d2=>rcases h7 with rfl | ⟨d,rfl⟩ <;> rfl
      case d3 =>
       have iw:=Nu U.text.ok false;have iw:gC false (.str name) (.lst [.str "north",.str "east",.str "south",.str "west"])=some (.dat (.bl (dr name))):=iw;have be:∀x:eT,jE (jO (aT p 26) k) x/\dr x=false->∃(Pc:Int×Int) (L:List eT) (B u t r:DV.Slot),[.io (pD l),.dat (.str "abcdefghijklmnopqrstuvwxyz"),.dat (.int (aT p 26)),.own (.lst (b.map .str++[.str x])),.dat (.int k),.dat (.int (aT q 8)),.dat (.str g),.dat (.str x)]=[.io (pD Pc),.dat (.str "abcdefghijklmnopqrstuvwxyz"),.dat (.int (aT p 26)),.own (.lst (L.map .str)),B,u,t,r]/\(∀s∈[B,u,t,r],s=.no\/∃d,s=.dat d)/\L.length=k + 1/\∀j x,L[j]? = some x->jE (jO (aT p 26) j) x/\dr x=false:=by
        intro x wx;refine⟨l,b++[x],_,_,_,_,by rw[f'];rfl,?_,by rw[eJ,J];rfl,?_⟩
        ·intro s C;simp only[cR,fm,or_false] at C
         rcases C with rfl | rfl | rfl | rfl <;> exact .inr ⟨_,rfl⟩
        ·intro j y v
         by_cases S:j < b.length
         ·rw[hH S] at v;exact hw j y v
         ·rw[hO (by lia)] at v
          have:j=k:=by
           have:=(bc.mp v).1;simp at this
           lia
          subst this;rw[J] at v;simp at v;subst v;exact wx
       have yq:(b.map Dat.str).length < sizeLine:=by simp only[a8,J];unfold bg;lia
       refine' aq (aj ?_)
       walk_at "wif"
       refine⟨λI=>?_,λI=>?_⟩
       ·have Pd:name.length + (ec "x").length<=sizeLine:=by
         have:=U.text.len;rw[show (ec "x").length=1 from by decide +kernel]
         unfold bg
         lia
        have Pe:name.length<=5:=by
         have key:∀y∈walls,y.length<=5:=by decide +kernel
         have I:dr name=true:=I;have:(walls.any λy=>decide (y=name))=true:=by rw[qz];exact I
         obtain⟨y,v,e⟩:=j3.mp this;have e:y=name:=by simpa using e
         subst e;exact key y v
        have ha2:=m6 Pd;have wx:jE (jO (aT p 26) k) (name++ec "x"):=by
         have ex:(ec "x").cps.toList=[120]:=by decide +kernel
         refine⟨?_,?_,?_⟩
         ·simp only[zd,sj,M];rfl
         ·intro a h;simp only[zd,sj,ex] at h
          rcases ee.mp h with z | z
          ·exact U.lQ a z
          ·cases iR.mp z;rfl
         ·simp only[zd,sj,ex,eJ,m5];have:name.cps.size<=5:=Pe;simp
          lia
        walk_at "w"
        refine' oM (pO rfl rfl yq) ?_
        walk_at "w"
        exact be _ ⟨wx,IY _⟩
       ·walk_at "w"
        refine' oM (pO rfl rfl yq) ?_
        walk_at "w"
        exact be _ ⟨U,I⟩
   case fin =>
    rintro Z ⟨q,b,B,u,t,r,rfl,C,J,hw⟩;have J:b.length=12:=J
    walk_at "w"
    refine⟨_,_,_,rfl,rfl,b,q,rfl,rfl,J,?_,?_⟩
    ·intro x hx;obtain⟨j,S,ej⟩:=nk hx;have:=hw j x (by simp only[cm S,ej])
     exact this.1.nm this.2
    ·show b.Pairwise (·≠·)
     rw[lb];intro i j hi S hij he;have w1:=hw i _ (cm hi);have w2:=hw j _ (cm S);rw[he] at w1;have:=w1.1.fst.symm.trans w2.1.fst;have:=NA (by omega) (by omega) (Option.some.inj this)
     lia
end
end bW
local macro_rules | `(tactic| walk_at "de0")=>`(tactic| first|(refine' LK ?z ?a ?b ?c ?d;(case z=>rfl);(case a=>rfl);(case b=>assumption);(case c=>rfl);(case d=>walk_at "da"))|(refine' MI ?z ?a ?b ?c ?d;(case z=>rfl);(case a=>rfl);(case b=>assumption);(case c=>rfl);(case d=>walk_at "da"))|(refine' DE.alt ?m ?n;(case m=>(refine' Ak ?x ?y ?a ?b ?c ?d;(case x=>rfl);(case y=>rfl);(case a=>rfl);(case b=>assumption);(case c=>rfl);(case d=>walk_at "da")));(case n=>(refine' ER ?x ?a ?b ?c ?d;(case x=>rfl);(case a=>rfl);(case b=>assumption);(case c=>rfl);(case d=>walk_at "da"))))|fail)
local macro_rules | `(tactic| walk_at "dd0")=>`(tactic| first|(refine' Ir ?z ?a ?b ?c ?d ?e ?f ?g;(case z=>rfl);(case a=>rfl);(case b=>assumption);(case c=>rfl);(case d=>assumption);(case e=>rfl);(case f=>rfl);(case g=>walk_at "dd"))|(refine' N9 ?u ?a ?b ?c ?d ?e ?f;(case u=>exact oB (by assumption));(case a=>rfl);(case b=>rfl);(case c=>rfl);(case d=>rfl);(case e=>walk_at "dd");(case f=>walk_at "da"))|(refine' MS ?u ?a ?b ?c ?d ?e ?f;(case u=>exact oB (by assumption));(case a=>rfl);(case b=>rfl);(case c=>rfl);(case d=>rfl);(case e=>walk_at "dd");(case f=>walk_at "da"))|(refine' Jq ?x ?a ?b ?c ?d ?e ?f ?g;(case x=>assumption);(case a=>rfl);(case b=>walk_at "vis");(case c=>exact ky (by assumption));(case d=>decide);(case e=>decide);(case f=>exact λ_ _=>rfl);(case g=>walk_at "dd"))|fail)
local macro_rules | `(tactic| walk_at "dit")=>`(tactic| first|fail)
local macro_rules | `(tactic| walk_at "dst")=>`(tactic| first|(refine' OP ?a ?b ?c ?d ?e ?f ?g ?h ?i ?j ?k;(case a=>rfl);(case b=>walk_at "vis");(case c=>decide);(case d=>decide);(case e=>rfl);(case f=>rfl);(case g=>rfl);(case h=>rfl);(case i=>rfl);(case j=>rfl);(case k=>walk_at "da"))|fail)
namespace bW
section
variable {P:hJ}{w:kq}{K:gj}{mg:eT->Option b8}{base:m3}
def Bb (h:f Z=some (.tup ds,Z1)):DV.alt (ke f) (kI f) Z=some (ds,Z1):=by
 refine l9 ?_;unfold ke;rw[h];rfl
noncomputable def mx (x y:Hs.Ob):Int:=Hs.mF x.r y.r - Hs.imax x.l y.l
noncomputable def jS (x y:Hs.Ob):Int:=Hs.mF x.t y.t - Hs.imax x.b y.b
def Kw (h:a≠[]):mn a∈a:=by
 have h0:0 < a.length:=ka.mpr h;obtain⟨h1,_⟩:=argBest_gt (λi=>(a[i]?).getD 0) (a.length - 1)
 unfold mn;rw[cm (by omega)]
 exact Tq _
def uc (h:a∈b):a<=mn b:=by
 have h0:0 < b.length:=ka.mpr (λz=>by rw[z] at h;cases h)
 obtain⟨h1,c⟩:=argBest_gt (λi=>(b[i]?).getD 0) (b.length - 1)
 obtain⟨j,d,e⟩:=nk h;have:=c j (by lia)
 simp only[cm d,Ux,e] at this;exact this
def ne_int (i j):dP true (.int i) (.int j)=some (.dat (.bl (!decide (i=j)))):=by rw[mK kW kW,kh]
def eq_int (i j):dP false (.int i) (.int j)=some (.dat (.bl (decide (i=j)))):=by rw[v_eq kW kW,kh]
def pj (xs:List a)(k:Nat):DV.cutD xs (some (k:Int)) none=xs.drop k:=by
 unfold DV.cutD;rw[HT.BH,HT.BL]
 by_cases h:k<=xs.length
 ·rw[V6 h,TJ (by rw[j1];lia)]
 ·rw[Nat.min_eq_right (by omega),Wv (eS _),Wv (by omega),Wj]
def mm (xs:List a)(k:Nat):DV.cutD xs none (some (k:Int))=xs.take k:=by
 unfold DV.cutD;simp only[HT.BH,HT.BL,List.drop_zero,Nat.sub_zero,List.take_eq_take_iff]
 lia
def ji (h:f Z=some (d,Z1))(a:g Z1=some (.int i,Z2))(b:eV d (some i) none=some r):jr f (kg g) ni Z=some (r,Z2):=by
 unfold jr;rw[h];simp only[a5];unfold kg;rw[a];show (eV d (some i) none).map _=_;rw[b];rfl
def iD (h:f Z=some (d,Z1))(a:g Z1=some (.int i,Z2))(b:eV d none (some i)=some r):jr f ni (kg g) Z=some (r,Z2):=by
 unfold jr;rw[h];simp only[a5];unfold ni kg;dsimp only[a5];rw[a];show (eV d none (some i)).map _=_;rw[b];rfl
structure zI (rs:Fl):Prop where
 tx:∀x∈rs,aZ x.1
 nu:∀x∈rs,(-(2 ^ 95) < x.2.l/\x.2.l < 2 ^ 95)/\(-(2 ^ 95) < x.2.b/\x.2.b < 2 ^ 95)/\(-(2 ^ 95) < x.2.r/\x.2.r < 2 ^ 95)/\(-(2 ^ 95) < x.2.t/\x.2.t < 2 ^ 95)
 bL:rs.length<=50
noncomputable def cT (rs:Fl):Int:=mn (rs.map λx=>x.2.r)
noncomputable def cO (rs:Fl):Int:=mn (rs.map λx=>x.2.t)
noncomputable def tJ (rs:Fl):Int:=(rs.map λx=>x.2.dY).sum
noncomputable def aN (k:Nat):Str:=if k=0 then "north" else if k=1 then "east" else if k=2 then "south" else "west"
noncomputable def lT (x y:Hs.Ob):Option Nat:=if 0 < mx x y/\jS x y=0 then (if y.b=x.t then some 0 else some 2) else if mx x y=0/\0 < jS x y then (if y.l=x.r then some 1 else some 3) else none
noncomputable def dI (k:Nat) (y:Hs.Ob):Int:=if k=0 then y.l else if k=1 then -y.b else if k=2 then -y.l else y.b
noncomputable def aU (a:List eT):List Str:=match a.findIdx? (λx=>decide (x=eA a)) with
 | some i=>a.drop i++a.take i
 | none=>a
def nj (h:a≠[]):eA a∈a:=by
 have h0:0 < a.length:=ka.mpr h;have key:∀(b:Nat->Nat->Bool) (k:Nat),Yu b k<=k:=λb k=>by
  induction k with
  | zero=>exact eS _
  | succ k ih =>
   dsimp only[Yu];split <;> lia
 unfold eA;have:=key (λi j=>decide (((a[i]?).getD n4).cps.toList < ((a[j]?).getD n4).cps.toList)) (a.length - 1)
 rw[cm (by omega)]
 exact Tq _
theorem oV {a:List eT}(b:∀x∈a,aZ x) {m:eT}(hm:aZ m):nI (.str m) (a.map .str)=a.findIdx? (λx=>decide (x=m)):=by
 unfold nI;induction a with
 | nil=>rfl
 | cons x a c =>
  show ((toPy (.str x))::bY (a.map .str)).findIdx? _=_;have ex:ua (toPy (.str x)) (toPy (.str m))=decide (x=m):=ig x m;simp only[Xj,Xj,ex,c λy d=>b y (ew _ d)]
def mS {a:List eT}(b:∀x∈a,aZ x):bB (.lst (a.map .str))=true:=j9 (by
 show (a.map Dat.str).all eh=true;rw[j4];intro d hd;obtain⟨x,hx,rfl⟩:=a9.mp hd;exact (b x hx).ok)
def oD (h:f Z=some (.lst ds,Z1))(a:fa Z1=some ([d],Z2))(b:bB (.lst ds)=true)(c:bB d=true)(e:nI d ds=some j):oA f fa Z=some (.int (j:Int),Z2):=by
 unfold oA;rw[h];dsimp only[a5];rw[a];show (if bB (.lst ds) && bB d then _ else none)=_
 simp only[b,c,Yp,if_pos rfl,e];rfl
noncomputable def r8 (fn:aQ):Prop:=∀a:List eT,a≠[]->a.length<=1000->(∀x∈a,aZ x)->fn [.lst (a.map .str)]=some (.own (.lst ((aU a).map .str)))
def Kl (T:Txt mg)(F:L2.bA K "begun_at_first" "begun_at_first" uI f g):∃fn,aV P w K mg base aX 1 f g ["ring"] (aF K fn)/\r8 fn:=by
 refine' ck F yH (n:=1) rfl ?C ?B
 case C =>
  intro cdv A outer s H E hr;have nd:=yH.nd;cases T
  walk_at "ds"
 case B =>
  clear T F;intro a b hz c;refine' cx rfl ?w
  case w =>
   show WS _ [.dat (.lst (a.map .str)),.no] _;have i:=mS c;obtain⟨j,d⟩:∃j,a.findIdx? (λx=>decide (x=eA a))=some j:=by
    cases e:a.findIdx? (λx=>decide (x=eA a)) with
    | some j=>exact⟨j,rfl⟩
    | none =>
     rw[Uv] at e;have:=e _ (nj b);simp at this
   have hj:j < a.length:=(k9.mp d).1;have h:=c _ (nj b);have em:lJ [.lst (a.map .str)]=some (.dat (.str (eA a))):=by
    have:=vW (λx:eT=>x) b
    rw[s9] at this;exact this
   refine' aj (aJ (v_res (oD rfl (ag (ak (aP (ag rfl ao) em) rfl) ao) i (fK h.ok) ((oV c h).trans d))) rfl (aq ?_));show WS _ [.dat (.lst (a.map .str)),.dat (.int (j:Int))] _;have k:eV (.lst (a.map .str)) (some (j:Int)) none=some (.own (.lst ((a.drop j).map .str))):=by
    show some (Res.own (.lst (DV.cutD (a.map Dat.str) (some (j:Int)) none)))=_;rw[pj,H9]
   have l:eV (.lst (a.map .str)) none (some (j:Int))=some (.own (.lst ((a.take j).map .str))):=by
    show some (Res.own (.lst (DV.cutD (a.map Dat.str) none (some (j:Int)))))=_;rw[mm,Hz]
   refine' aj (bZ (au (ak (ji rfl rfl k) rfl) (ak (iD rfl rfl l) rfl) (dW ?D)) ?G)
   case D =>
    simp only[a8,a8,j1,gg];unfold bg
    lia
   case G =>
    unfold aU;rw[d,f'];exact⟨_,rfl⟩
noncomputable def pairD (x:eT×List eT):Dat:=.tup [.str x.1,.lst (x.2.map .str)]
theorem AB (l:List (eT×List eT)):DV.firstsD (l.map pairD)=some (l.map (·.1)):=by
 induction l with
 | nil=>rfl
 | cons x l a =>
  rw[gi,DV.firstsD,a];rfl
noncomputable def C9 (fn:aQ):Prop:=∀l:List (eT×List eT),l.length < 64->(l.map (·.1)).Nodup->(∀x∈l,x.2≠[]/\x.2.length<=1000/\∀y∈x.2,aZ y)->fn [.lst (l.map pairD)]=some (.own (.lst (gy ((l.map λx=>(x.1,aU x.2)).map pairD))))
def ML (T:Txt mg)(g:bw P w K mg base "begun_at_first" 1 (aF K a))(h:r8 a)(F:L2.bA K "in_order" "in_order" vI f c):∃fn,aV P w K mg base aX 2 f c ["web"] (aF K fn)/\C9 fn:=by
 refine' ck F Aj (n:=1) rfl ?C ?B
 case C =>
  intro cdv A outer s H E d;have nd:=Aj.nd;cases T
  walk_at "ds"
 case B =>
  clear T F g;intro l i j d;refine' cx rfl ?w
  case w =>
   show WS _ [.dat (.lst (l.map pairD))] _;have k:gI [.lst (l.map λx=>pairD (x.1,aU x.2))]=some (.own (.lst (gy ((l.map λx=>(x.1,aU x.2)).map pairD)))):=by
    rw[show (l.map λx=>pairD (x.1,aU x.2))=(l.map λx=>(x.1,aU x.2)).map pairD from by rw[hA];rfl]
    show (DV.firstsD _).bind _=_;rw[AB];show (if _/\_ then _ else none)=_
    rw[if_pos ⟨by rw[hA];exact j,by simp only[a8,a8];exact i⟩]
   refine' aj (bZ (l9 (aP (ag (ak (fY (enc:=pairD) (xs:=l) (λx=>[.no,.dat (.str x.1),.dat (.lst (x.2.map .str))]) (λx=>pairD (x.1,aU x.2)) (cF rfl) rfl ?D ?G ?I ?J) rfl) ao) k)) ⟨_,rfl⟩)
   case D=>unfold bg;lia
   case G=>intro y b Z hd;rcases hd with rfl | ⟨z,rfl⟩ <;> rfl
   case I =>
    intro y b;obtain⟨m,o,p⟩:=d y b;have e:=h y.2 m o p;exact il (ag rfl (ag (ak (aP (ag rfl ao) e) rfl) ao)) (by simp[bg])
   case J=>intro y b;rfl
noncomputable def jg (rs:Fl):Fl:=[("north",⟨0,cO rs,cT rs,cO rs + 1⟩),("east",⟨cT rs,0,cT rs + 1,cO rs⟩),("south",⟨0,-1,cT rs,0⟩),("west",⟨-1,0,0,cO rs⟩)]
noncomputable def Fr (s:DV.Slot):Prop:=s=.no\/∃d,s=.dat d
noncomputable def hU (x:Hs.Ob) (rs:Fl) (k:Nat):List (Int×eT):=(rs.filter λy=>decide (lT x y.2=some k)).map λy=>(dI k y.2,y.1)
noncomputable def fR (l:List (Int×eT)):List (Int×eT):=l.mergeSort λa b=>decide (a.1<=b.1)
noncomputable def dk (p:Int×eT):Dat:=.tup [.int p.1,.str p.2]
theorem Gh (l:List (Int×eT)):DV.firstsI (l.map dk)=some (l.map (·.1)):=by
 induction l with
 | nil=>rfl
 | cons x l a =>
  rw[gi,DV.firstsI,a];rfl
def Oh (c:(l.map (·.1)).Nodup)(d:l.length < 64):nV [.lst (l.map dk)]=some (.own (.lst ((fR l).map dk))):=by
 show (DV.firstsI _).bind _=_;rw[Gh];show (if _/\_ then _ else none)=_
 rw[if_pos ⟨c,by rw[a8];exact d⟩]
 unfold fR qW;rw[<- ri (r:=λa b:Int×eT=>decide (a.1<=b.1)) (s:=eM) (f:=dk) (l:=l) (λa _ b _=>rfl)]
theorem Hj (h:l≠[]):gI [.lst (l.map dk)]=none:=by
 cases l with
 | nil=>exact absurd rfl h
 | cons x l=>rfl
def OU (b:(l.map (·.1)).Nodup)(c:l.length < 64)(a:fa Z=some ([.lst (l.map dk)],Z1)):DV.alt (cJ gI fa) (cJ nV fa) Z=some (.own (.lst ((fR l).map dk)),Z1):=by
 by_cases h:l=[]
 ·subst h;refine l9 (aP a ?_);have:fR []=[]:=by unfold fR;simp
  rw[this];show (if ([]:List eT).Nodup/\([]:List Dat).length < 64 then some (Res.own (.lst (gy []))) else none)=_
  rw[if_pos ⟨za,by decide⟩]
  unfold gy;simp
 ·refine ug ?_ (aP a (Oh b c));unfold cJ;rw[a];show (gI [.lst (l.map dk)]).map _=none;rw[Hj h];rfl
def uf (l):(fR l).length=l.length:=(gp _ _).length_eq
open zD
noncomputable def cI (rs:Fl):List (Int×Int):=cf.oh (rs.map (·.2))
def FK {rs:Fl}{k:Nat}{x:eT×Hs.Ob}(h:rs[k]? = some x):cI (rs.take (k + 1))=cI (rs.take k)++cf.ik x.2:=by
 unfold cI cf.oh;rw[X7,h,f',Xa];simp
def MP:p∈fR l ↔ p∈l:=(gp _ _).mem_iff
def lF (b:Z[i]? = some (.dat (.dE a)))(h:g Z=some (.str k,Z1))(h':dc a k=some d):p8 i g Z=some (d,Z1):=by
 unfold p8;rw[b];dsimp only;rw[h];show (dc a k).map _=_;rw[h'];rfl
noncomputable def ki (a:Nat) (x y:Hs.Ob):Bool:=if a=1 then decide (x.l < y.r) && decide (y.l < x.r) else decide (x.b < y.t) && decide (y.b < x.t)
noncomputable def yD (fn:aQ):Prop:=∀(x y:eT×Hs.Ob) (a:Nat),a=1\/a=2->fn [aG x,aG y,.int (a:Int)]=some (.dat (.bl (ki a x.2 y.2)))
def K7 (T:Txt mg)(F:L2.bA K "_law_over" "_law_over" uV f a):∃fn,aV P w K mg base aX 1 f a ["_law_one","_law_other","_law_low"] (aF K fn)/\yD fn:=by
 refine' ck F Cs (n:=3) rfl ?C ?B
 case C =>
  intro cdv A outer s H E hr;have nd:=Cs.nd;cases T
  walk_at "ds"
 case B =>
  clear T F;rintro x y low (rfl | rfl)
  ·refine' cx rfl ?w
   case w =>
    show WS _ [.dat (aG x),.dat (aG y),.dat (.int 1)] _;dsimp only[aG]
    walk_at "w"
    exact⟨_,rfl⟩
  ·refine' cx rfl ?w
   case w =>
    show WS _ [.dat (aG x),.dat (aG y),.dat (.int 2)] _;dsimp only[aG]
    walk_at "w"
    exact⟨_,rfl⟩
noncomputable def df (k:Nat) (x y:Hs.Ob):Bool:=if k=0 then decide (y.b=x.t) && ki 1 x y else if k=1 then decide (y.l=x.r) && ki 2 x y else if k=2 then decide (y.t=x.b) && ki 1 x y else decide (y.r=x.l) && ki 2 x y
noncomputable def cD (rs:Fl) (x:Hs.Ob) (k:Nat):List (Int×eT):=(rs.filter λy=>df k x y.2).map λy=>(dI k y.2,y.1)
noncomputable def dS (rs:Fl) (x:Hs.Ob) (k:Nat):List Str:=if cD rs x k=[] then [aN k] else (fR (cD rs x k)).map (·.2)
def Fw {l:List (Int×eT)}(h:∀p∈l,aZ p.2):bB (.lst (l.map dk))=true:=qH (by
 rw[j4];intro d hd;obtain⟨p,a,rfl⟩:=a9.mp hd;show [Dat.int p.1,.str p.2].all eh=true;simp[eh,(h p a).ok])
def Fi (h:∀p∈l,aZ p.2):dP false (.lst (l.map dk)) (.lst [])=some (.dat (.bl (decide (l=[])))):=by
 rw[v_eq (Fw h) (j9 rfl),kZ];cases l <;> rfl
def sh (h:c Z=some (b,Z1))(a:b=true)(t:WS s Z1 Q):WS (jv c s s') Z Q:=eL h (λ_=>t) (λz=>absurd (a.symm.trans z) (by decide))
def kL (h:c Z=some (b,Z1))(a:b=false)(t:WS s' Z1 Q):WS (jv c s s') Z Q:=eL h (λz=>absurd (a.symm.trans z) (by decide)) (λ_=>t)
noncomputable def An (fn:aQ):Prop:=∀(rs:Fl) (x:eT×Hs.Ob) (k:Nat),k < 4->rs.length < 64->(∀y∈rs,aZ y.1)->((cD rs x.2 k).map (·.1)).Nodup->fn [aH rs,aG x,.int (k:Int)]=some (.own (.lst ((dS rs x.2 k).map .str)))
def E6 (T:Txt mg)(R:bw P w K mg base "_law_over" 1 (aF K i))(c:yD i)(F:L2.bA K "_law_side" "_law_side" vB f q):∃fn,aV P w K mg base aX 2 f q ["_law_rows_here","_law_one","_law_way"] (aF K fn)/\An fn:=by
 refine' ck F yV (n:=3) rfl ?S ?M
 case S =>
  intro cdv A outer s H E hr;have nd:=yV.nd;cases T
  walk_at "ds"
 case M =>
  clear T F R;intro rs x k g U u v;refine' cx rfl ?w
  case w =>
   show WS _ [.dat (aH rs),.dat (aG x),.dat (.int (k:Int)),.no,.no,.no,.no,.no,.no] _
   walk_at "w"
   have sz:rs.length<=sizeLine:=by unfold bg;lia
   have tx:∀p∈cD rs x.2 k,aZ p.2:=by
    intro p O;unfold cD at O;obtain⟨y,a,rfl⟩:=a9.mp O;exact u y (ft.mp a).1
   have j:(cD rs x.2 k).length < 64:=by
    unfold cD;rw[a8];exact Uq (U4 _ _) U
   have ep:((rs.filter λy=>df k x.2 y.2).map λy:eT×Hs.Ob=>dk (dI k y.2,y.1))=(cD rs x.2 k).map dk:=by unfold cD;simp only[hA];rfl
   refine' WS.mono (Q:=λo=>o=.next [.dat (aH rs),.dat (aG x),.dat (.int (k:Int)),.dat (.str x.1),.dat (.int x.2.l),.dat (.int x.2.b),.dat (.int x.2.r),.dat (.int x.2.t),.own (.lst ((cD rs x.2 k).map dk))]) ?ifs ?N
   case ifs =>
    clear tx j u v;have g:k=0\/k=1\/k=2\/k=3:=by lia
    rcases g with rfl | rfl | rfl | rfl
    ·refine' sh (bq (au rfl rfl (eq_int _ _))) (by decide) (aj (aJ (Z2:=[.dat (aH rs),.dat (aG x),.dat (.int (0:Nat)),.dat (.str x.1),.dat (.int x.2.l),.dat (.int x.2.b),.dat (.int x.2.r),.dat (.int x.2.t),.own (.lst ((cD rs x.2 0).map dk))]) (jh (enc:=aG) (xs:=rs) (λy=>[.no,.dat (aG y),.dat (aG x),.dat (.int x.2.t)]) (λy=>df 0 x.2 y.2) (λy=>dk (dI 0 y.2,y.1)) (cF rfl) ?B sz ?C ?D ?G ?I) ?J (aq (bf ?L))))
     case B=>exact rfl
     case C=>intro y a Z hd;rcases hd with rfl | ⟨z,rfl⟩ <;> rfl
     case D =>
      intro y a;have e:=c x y 1 (by decide)
      exact hV (bq (au rfl rfl (eq_int _ _))) (fV (ak (aP (ag rfl (ag rfl (ag rfl ao))) e) rfl) rfl)
     case G=>intro y a _;rfl
     case I=>intro y a;rfl
     case J=>rw[ep];rfl
     case L =>
      iterate 3 try refine aq (bf ?_)
      rfl
    ·refine' kL (bq (au rfl rfl (eq_int _ _))) (by decide) (aj (sh (bq (au rfl rfl (eq_int _ _))) (by decide) (aj (aJ (Z2:=[.dat (aH rs),.dat (aG x),.dat (.int (1:Nat)),.dat (.str x.1),.dat (.int x.2.l),.dat (.int x.2.b),.dat (.int x.2.r),.dat (.int x.2.t),.own (.lst ((cD rs x.2 1).map dk))]) (jh (enc:=aG) (xs:=rs) (λy=>[.no,.dat (aG y),.dat (aG x),.dat (.int x.2.r)]) (λy=>df 1 x.2 y.2) (λy=>dk (dI 1 y.2,y.1)) (cF rfl) ?B sz ?C ?D ?G ?I) ?J (aq (bf ?L))))))
     case B=>exact rfl
     case C=>intro y a Z hd;rcases hd with rfl | ⟨z,rfl⟩ <;> rfl
     case D =>
      intro y a;have e:=c x y 2 (by decide)
      exact hV (bq (au rfl rfl (eq_int _ _))) (fV (ak (aP (ag rfl (ag rfl (ag rfl ao))) e) rfl) rfl)
     case G=>intro y a _;rfl
     case I=>intro y a;rfl
     case J=>rw[ep];rfl
     case L =>
      iterate 3 try refine aq (bf ?_)
      rfl
    ·refine' kL (bq (au rfl rfl (eq_int _ _))) (by decide) (aj (kL (bq (au rfl rfl (eq_int _ _))) (by decide) (aj (sh (bq (au rfl rfl (eq_int _ _))) (by decide) (aj (aJ (Z2:=[.dat (aH rs),.dat (aG x),.dat (.int (2:Nat)),.dat (.str x.1),.dat (.int x.2.l),.dat (.int x.2.b),.dat (.int x.2.r),.dat (.int x.2.t),.own (.lst ((cD rs x.2 2).map dk))]) (jh (enc:=aG) (xs:=rs) (λy=>[.no,.dat (aG y),.dat (.int x.2.b),.dat (aG x)]) (λy=>df 2 x.2 y.2) (λy=>dk (dI 2 y.2,y.1)) (cF rfl) ?B sz ?C ?D ?G ?I) ?J (aq (bf ?L))))))))
     case B=>exact rfl
     case C=>intro y a Z hd;rcases hd with rfl | ⟨z,rfl⟩ <;> rfl
     case D =>
      intro y a;have e:=c x y 1 (by decide)
      exact hV (bq (au rfl rfl (eq_int _ _))) (fV (ak (aP (ag rfl (ag rfl (ag rfl ao))) e) rfl) rfl)
     case G=>intro y a _;rfl
     case I=>intro y a;rfl
     case J=>rw[ep];rfl
     case L =>
      iterate 3 try refine aq (bf ?_)
      rfl
    ·refine' kL (bq (au rfl rfl (eq_int _ _))) (by decide) (aj (kL (bq (au rfl rfl (eq_int _ _))) (by decide) (aj (kL (bq (au rfl rfl (eq_int _ _))) (by decide) (aj (aJ (Z2:=[.dat (aH rs),.dat (aG x),.dat (.int (3:Nat)),.dat (.str x.1),.dat (.int x.2.l),.dat (.int x.2.b),.dat (.int x.2.r),.dat (.int x.2.t),.own (.lst ((cD rs x.2 3).map dk))]) (jh (enc:=aG) (xs:=rs) (λy=>[.no,.dat (aG y),.dat (.int x.2.l),.dat (aG x)]) (λy=>df 3 x.2 y.2) (λy=>dk (dI 3 y.2,y.1)) (cF rfl) ?B sz ?C ?D ?G ?I) ?J ?L))))))
     case B=>exact rfl
     case C=>intro y a Z hd;rcases hd with rfl | ⟨z,rfl⟩ <;> rfl
     case D =>
      intro y a;have e:=c x y 2 (by decide)
      exact hV (bq (au rfl rfl (eq_int _ _))) (fV (ak (aP (ag rfl (ag rfl (ag rfl ao))) e) rfl) rfl)
     case G=>intro y a _;rfl
     case I=>intro y a;rfl
     case J=>rw[ep];rfl
     case L =>
      iterate 3 try refine aq (bf ?_)
      rfl
   case N =>
    rintro o rfl;refine aq (aj (eL (bq (au rfl rfl (Fi tx))) (λh=>?_) (λh=>?_)))
    ·have h:=of_decide_eq_true h;refine' aj (bZ (dz (ag (kU (ak (dz (ag rfl (ag rfl (ag rfl (ag rfl ao)))) (by show 4<=bg;unfold bg;decide)) rfl) rfl (d:=.str (aN k)) ?V) ao) (by show 1<=bg;unfold bg;decide)) ?W)
     case V =>
      have g:k=0\/k=1\/k=2\/k=3:=by lia
      rcases g with rfl | rfl | rfl | rfl <;> rfl
     case W =>
      refine gH (gH ?_);have m:dS rs x.2 k=[aN k]:=if_pos h;rw[m];exact⟨_,rfl⟩
    ·have h:=of_decide_eq_false h;have X:=OU (fa:=dA (dF 8) iK) (Z:=[.dat (aH rs),.dat (aG x),.dat (.int (k:Int)),.dat (.str x.1),.dat (.int x.2.l),.dat (.int x.2.b),.dat (.int x.2.r),.dat (.int x.2.t),.own (.lst ((cD rs x.2 k).map dk))]) v j (ag rfl ao);refine' bf (aq (aj (bZ (fY (enc:=dk) (xs:=fR (cD rs x.2 k)) (λp=>[.no,.dat (.int p.1),.dat (.str p.2)]) (λp=>.str p.2) (cF (ak X rfl)) ?Y ?b3 ?b4 ?b6 ?b7) (gH ?b9))))
     case Y=>exact rfl
     case b3=>rw[uf];unfold bg;lia
     case b4=>intro y a Z hd;rcases hd with rfl | ⟨z,rfl⟩ <;> rfl
     case b6=>intro y a;rfl
     case b7=>intro y a;rfl
     case b9 =>
      have m:dS rs x.2 k=(fR (cD rs x.2 k)).map (·.2):=if_neg h;rw[m,hA];exact⟨_,rfl⟩
noncomputable def cQ (rs:Fl) (x:Hs.Ob) (n:Nat):List Str:=(lp n).flatMap λk=>dS rs x k
def lR (rs) (x) (n):cQ rs x (n + 1)=cQ rs x n++dS rs x n:=by
 unfold cQ;rw[XZ,Xa];simp
def Bn (rs) (x) (k):(dS rs x k).length<=rs.length + 1:=by
 unfold dS;split
 ·simp
 ·rw[a8,uf];unfold cD;rw[a8];have:=U4 (λy:eT×Hs.Ob=>df k x y.2) rs
  lia
theorem xw (rs) (x) (n):(cQ rs x n).length<=n * (rs.length + 1):=by
 induction n with
 | zero=>simp[cQ]
 | succ n ih =>
  simp only[lR,eJ,VF];have:=Bn rs x n
  lia
def L7 (d:∀y∈rs,aZ y.1)(x)(c:k < 4):∀y∈dS rs x k,aZ y:=by
 intro y a;unfold dS at a;split at a
 ·have c:k=0\/k=1\/k=2\/k=3:=by lia
  simp only[cR,fm,or_false] at a;subst a
  rcases c with rfl | rfl | rfl | rfl <;> exact⟨by decide +kernel,by decide +kernel⟩
 ·obtain⟨p,b,rfl⟩:=a9.mp a;have b:=MP.mp b;unfold cD at b;obtain⟨z,e,rfl⟩:=a9.mp b;exact d z (ft.mp e).1
def Oe (b:∀y∈rs,aZ y.1)(x):∀y∈cQ rs x 4,aZ y:=by
 intro y a;unfold cQ at a;obtain⟨k,c,a⟩:=XN.mp a;exact L7 b x (Uh.mp c) y a
def Me (rs) (x) (k):dS rs x k≠[]:=by
 unfold dS;split
 ·simp
 ·rename_i h;intro z;have z:=congrArg List.length z;rw[a8,uf] at z;exact h (List.length_eq_zero_iff.mp z)
def Ih (rs) (x):cQ rs x 4≠[]:=by
 rw[lR];intro z;exact Me _ _ _ (List.append_eq_nil_iff.mp z).2
noncomputable def vq (rs:Fl) (x:Hs.Ob):Prop:=∀k,k < 4->((cD rs x k).map (·.1)).Nodup
noncomputable def A' (fn:aQ):Prop:=∀(rs:Fl) (x:eT×Hs.Ob),rs.length < 64->(∀y∈rs,aZ y.1)->vq rs x.2->fn [aH rs,aG x]=some (.own (.lst ((aU (cQ rs x.2 4)).map .str)))
def LB (T:Txt mg) (q:j7 mg)(v:bw P w K mg base "_law_side" 2 (aF K l))(o:An l)(F:L2.bA K "_law_ring" "_law_ring" sD f r):∃fn,aV P w K mg base aX 3 f r ["_law_rows_here","_law_one"] (aF K fn)/\A' fn:=by
 refine' ck F zK (n:=2) rfl ?J ?C
 case J =>
  intro cdv A outer s H E hr;have nd:=zK.nd;cases T;cases q
  walk_at "ds"
 case C =>
  clear T q F v;intro rs x z t L;refine' cx rfl ?w
  case w =>
   show WS _ [.dat (aH rs),.dat (aG x),.no,.no,.no] _
   walk_at "w"
   refine' d7 (λk Z=>∃c,Fr c/\Z=[.dat (aH rs),.dat (aG x),.own (.lst ((cQ rs x.2 k).map .str)),c,.no]) (oI (n:=4) ?i (by lia)) ?M ?st ?I
   case i=>walk_at "ev"
   case M=>exact⟨.no,.inl rfl,rfl⟩
   case st =>
    rintro k y N Z ⟨c,B,rfl⟩;obtain⟨hk,rfl⟩:=qU N;refine⟨[.dat (aH rs),.dat (aG x),.own (.lst ((cQ rs x.2 k).map .str)),.dat (.int k),.no],by rcases B with rfl | ⟨d,rfl⟩ <;> rfl,?_⟩
    have m:k < 4:=by omega
    have e:=o rs x k m z t (L k m);have hl:=xw rs x.2 k;have hl2:=Bn rs x.2 k;have hm:k * (rs.length + 1)<=4 * (rs.length + 1):=W7 _ (by lia)
    refine' aj (aJ (au rfl (ak (aP (ag rfl (ag rfl (ag rfl ao))) e) rfl) (dW ?D)) ?G (aq (bf ?B)))
    case D =>
     rw[a8,a8];unfold bg;omega
    case G=>exact rfl
    case B =>
     refine⟨.dat (.int k),.inr ⟨_,rfl⟩,?_⟩;rw[lR,f'];rfl
   case I =>
    rintro Z ⟨c,B,rfl⟩;obtain⟨a,b⟩:∃a,a=cQ rs x.2 4:=⟨_,rfl⟩;show WS _ [.dat (aH rs),.dat (aG x),.own (.lst ((cQ rs x.2 4).map .str)),c,.no] _;have g:a≠[]:=b ▸ Ih rs x.2;have h:∀y∈a,aZ y:=b ▸ Oe t x.2;have hlen:a.length<=1000:=by
     have:=xw rs x.2 4;rw[b]
     lia
    rw[<- b];have O:=mS h;obtain⟨j,p⟩:∃j,a.findIdx? (λx=>decide (x=eA a))=some j:=by
     cases e:a.findIdx? (λx=>decide (x=eA a)) with
     | some j=>exact⟨j,rfl⟩
     | none =>
      rw[Uv] at e;have:=e _ (nj g);simp at this
    have hj:j < a.length:=(k9.mp p).1;have u:=h _ (nj g);have em:lJ [.lst (a.map .str)]=some (.dat (.str (eA a))):=by
     have:=vW (λx:eT=>x) g
     rw[s9] at this;exact this
    refine' aj (aJ (v_res (oD rfl (ag (ak (aP (ag rfl ao) em) rfl) ao) O (fK u.ok) ((oV h u).trans p))) rfl (aq ?_));show WS _ [.dat (aH rs),.dat (aG x),.dat (.lst (a.map .str)),c,.dat (.int (j:Int))] _;have o:eV (.lst (a.map .str)) (some (j:Int)) none=some (.own (.lst ((a.drop j).map .str))):=by
     show some (Res.own (.lst (DV.cutD (a.map Dat.str) (some (j:Int)) none)))=_;rw[pj,H9]
    have Q:eV (.lst (a.map .str)) none (some (j:Int))=some (.own (.lst ((a.take j).map .str))):=by
     show some (Res.own (.lst (DV.cutD (a.map Dat.str) none (some (j:Int)))))=_;rw[mm,Hz]
    refine' aj (bZ (au (ak (ji rfl rfl o) rfl) (ak (iD rfl rfl Q) rfl) (dW ?D)) ?G)
    case D =>
     simp only[a8,a8,j1,gg];unfold bg;omega
    case G =>
     unfold aU;rw[p,f'];exact⟨_,rfl⟩
theorem MX (l:Fl):DV.firstsD (l.map aG)=some (l.map (·.1)):=by
 induction l with
 | nil=>rfl
 | cons x l a =>
  rw[gi,DV.firstsD,a];rfl
noncomputable def mf (rs:Fl):Fl:=rs.mergeSort λa b=>dw (aG a) (aG b)
def CL (rs) (f) (h:∀a∈rs,∀b∈rs,dw (f a) (f b)=dw (aG a) (aG b)):gy (rs.map f)=(mf rs).map f:=by
 unfold gy mf;rw[<- ri (r:=λa b=>dw (aG a) (aG b)) (s:=dw) (f:=f) (l:=rs) (λa c b d=>(h a c b d).symm)]
noncomputable def pU (rs:Fl):List Dat:=gy (rs.map λy=>pairD (y.1,aU (cQ rs y.2 4)))
noncomputable def AG (fn:aQ):Prop:=∀rs:Fl,rs.length < 64->(∀y∈rs,aZ y.1)->(rs.map (·.1)).Nodup->(∀y∈rs,vq rs y.2)->fn [aH rs]=some (.own (.lst (pU rs)))
def Iy (T:Txt mg) (g:j7 mg)(j:bw P w K mg base "_law_ring" 3 (aF K c))(k:A' c)(F:L2.bA K "_law_web" "_law_web" uS f h):∃fn,aV P w K mg base aX 4 f h ["_law_rows_here"] (aF K fn)/\AG fn:=by
 refine' ck F C2 (n:=1) rfl ?C ?B
 case C =>
  intro cdv A outer s H E hr;have nd:=C2.nd;cases T;cases g
  walk_at "ds"
 case B =>
  clear T g F j;intro rs i l m o;refine' cx rfl ?w
  case w =>
   show WS _ [.dat (aH rs)] _;have p:gI [aH rs]=some (.own (.lst ((mf rs).map aG))):=by
    show (DV.firstsD (rs.map aG)).bind _=_;rw[MX];show (if _/\_ then _ else none)=_
    rw[if_pos ⟨m,by rw[a8];exact i⟩,CL rs aG λa _ b _=>rfl]
   have pm:∀y,y∈mf rs ↔ y∈rs:=λy=>(gp _ _).mem_iff
   have q:(mf rs).length=rs.length:=(gp _ _).length_eq;refine' aj (bZ (fY (enc:=aG) (xs:=mf rs) (λy=>[.no,.dat (aG y),.dat (aH rs)]) (λy=>pairD (y.1,aU (cQ rs y.2 4))) (cF (ak (l9 (aP (ag rfl ao) p)) rfl)) ?D ?G ?I ?J ?L) ?M)
   case D=>exact rfl
   case G=>rw[q];unfold bg;lia
   case I=>intro y d Z hd;rcases hd with rfl | ⟨z,rfl⟩ <;> rfl
   case J =>
    intro y d;have e:=k rs y i l (o y ((pm y).mp d));exact il (ag rfl (ag (ak (aP (ag rfl (ag rfl ao)) e) rfl) ao)) (by simp[bg])
   case L=>intro y d;rfl
   case M =>
    unfold pU;rw[CL rs (λy=>pairD (y.1,aU (cQ rs y.2 4))) λa _ b _=>rfl]
    exact⟨_,rfl⟩
noncomputable def dG (p:Int×Int):Dat:=.tup [.int p.1,.int p.2]
def Ht (p q):cw (dG p) (dG q)=decide (p=q):=by
 show cw (.tup _) (.tup _)=_;rw[nX];show (cw (.int p.1) (.int q.1) && (cw (.int p.2) (.int q.2) && true))=_;rw[kh,kh,UC,sb];simp[Prod.ext_iff]
theorem Ff (p:Int×Int) (l:List (Int×Int)):jK (dG p) (l.map dG)=l.count p:=by
 unfold jK;induction l with
 | nil=>rfl
 | cons x l a =>
  show ((toPy (dG x))::bY (l.map dG)).countP _=_;have ex:ua (toPy (dG x)) (toPy (dG p))=decide (x=p):=Ht x p;simp only[hY,a,List.count_cons,ex];simp
def K6 (l:List (Int×Int)):bB (.lst (l.map dG))=true:=qH (by
 rw[j4];intro d hd;obtain⟨p,hp,rfl⟩:=a9.mp hd;rfl)
def v_count (h:f Z=some (.lst ds,Z1))(a:fa Z1=some ([d],Z2))(b:bB (.lst ds)=true)(c:bB d=true):pw f fa Z=some (.int (jK d ds:Nat),Z2):=by
 unfold pw;rw[h];dsimp only[a5];rw[a];show (if bB (.lst ds) && bB d then _ else none)=_
 rw[b,c,Yp,if_pos rfl]
noncomputable def Cu (y:eT×Hs.Ob):List DV.Slot:=[.dat (.str y.1),.dat (.int y.2.l),.dat (.int y.2.b),.dat (.int y.2.r),.dat (.int y.2.t)]
noncomputable def El (T:List DV.Slot):Prop:=T=[.no,.no,.no,.no,.no]\/∃y,T=Cu y
theorem yg (rs):(cI rs).length=4 * rs.length:=by
 dsimp only[cI,cf.oh];rw[List.length_flatMap];induction rs with
 | nil=>rfl
 | cons x l a =>
  simp only[gi,gi,rp,a,fk];show 4 + _=_
  lia
noncomputable def kj (rs:Fl):Bool:=decide (∃p∈cI rs,3 < (cI rs).count p)
noncomputable def AS (fn:aQ):Prop:=∀rs:Fl,rs.length<=50->fn [aH rs]=some (.dat (.bl (kj rs)))
def Fk (T:Txt mg) (d:j7 mg)(F:L2.bA K "_law_meeting" "_law_meeting" uM f g):∃fn,aV P w K mg base aX 1 f g ["_law_rows_here"] (aF K fn)/\AS fn:=by
 refine' ck F C8 (n:=1) rfl ?D ?B
 case D =>
  intro cdv A outer s H E hr;have nd:=C8.nd;cases T;cases d
  walk_at "ds"
 case B =>
  clear T d F;intro rs hz;refine' cx rfl ?w
  case w =>
   show WS _ [.dat (aH rs),.no,.no,.no,.no,.no,.no] _
   walk_at "w"
   refine' d7 (λk Z=>∃T,El T/\Z=.dat (aH rs)::.own (.lst ((cI (rs.take k)).map dG))::T) (cF rfl) ?G ?st ?C
   case G=>exact⟨_,.inl rfl,rfl⟩
   case st =>
    rintro k y a Z ⟨T,i,rfl⟩;rw[cn] at a;obtain⟨x,ex,rfl⟩:=g0.mp a;have hk:k < rs.length:=(bc.mp ex).1;refine⟨.dat (aH rs)::.own (.lst ((cI (rs.take k)).map dG))::Cu x,by rcases i with rfl | ⟨y,rfl⟩ <;> rfl,?_⟩
    refine' aj (aJ (au rfl (ak (dz (ds:=(cf.ik x.2).map dG) ?I ?J) rfl) (dW ?L)) ?M (aq (bf ?N)))
    case I=>walk_at "ev"
    case J=>show 4<=bg;unfold bg;decide
    case L =>
     simp only[a8,a8,yg,gg];show _ + 4<=_;unfold bg
     lia
    case M=>exact rfl
    case N =>
     refine⟨_,.inr ⟨x,rfl⟩,?_⟩;rw[FK ex,f'];rfl
   case C =>
    rintro Z ⟨T,i,rfl⟩;have j:rs.take (rs.map aG).length=rs:=by rw[a8,q0]
    rw[j];have hl:=yg rs;have l:pM [.lst (((cI rs).filter λp=>decide (3 < (cI rs).count p)).map dG)]=some (.dat (.int (((cI rs).filter λp=>decide (3 < (cI rs).count p)).length:Nat))):=by
     rw[<- a8 (as:=(cI rs).filter λp=>decide (3 < (cI rs).count p)) dG]
     rfl
    refine' aq (aj (bZ (au (ak (aP (ag (ak (jh (enc:=dG) (xs:=cI rs) (λp=>[.no,.dat (dG p),.dat (.lst ((cI rs).map dG))]) (λp=>decide (3 < (cI rs).count p)) (λp=>dG p) (cF rfl) ?O ?Q ?R ?S ?U ?V) ?W) ao) l) rfl) rfl rfl) (gH ?X)))
    case O=>exact rfl
    case Q=>unfold bg;lia
    case R=>intro y a Z hd;rcases hd with rfl | ⟨z,rfl⟩ <;> rfl
    case S =>
     intro y a;have e:=v_count (f:=dF 2) (fa:=dA (dF 1) iK) (Z:=[.no,.dat (dG y),.dat (.lst ((cI rs).map dG))]) rfl (ag rfl ao) (K6 (cI rs)) (zC (ds:=[.int y.1,.int y.2]) rfl);rw[Ff] at e;refine (bq (au e rfl rfl)).trans ?_;congr 2;exact decide_eq_decide.mpr (by omega)
    case U=>intro y a _;rfl
    case V=>intro y a;rfl
    case W=>exact rfl
    case X =>
     refine kO ?_;unfold kj;refine decide_eq_decide.mpr ?_;constructor
     ·intro h;have h:0 < ((cI rs).filter λp=>decide (3 < (cI rs).count p)).length:=by omega
      obtain⟨p,m⟩:=List.exists_mem_of_length_pos h;obtain⟨b,c⟩:=ft.mp m;exact⟨p,b,of_decide_eq_true c⟩
     ·rintro⟨p,b,c⟩;have:0 < ((cI rs).filter λp=>decide (3 < (cI rs).count p)).length:=Wu (ft.mpr ⟨b,decide_eq_true c⟩)
      omega
def OT {rs:Fl}{k:Nat}{x:eT×Hs.Ob}(h:rs[k]? = some x):dv (aH rs) (.int (k:Int))=some (aG x):=by
 show dv (.lst (rs.map aG)) (.int (k:Int))=_;rw[mG];exact mM (by rw[cn,h];rfl)
end
end bW
namespace bW
theorem zE:∀(l d:List L2.Key),d.Nodup->((l.foldl L2.gd d).length=d.length + l.length ↔ l.Nodup/\∀x∈l,x∉d)
 | [],d,_=>by simp
 | v::l,d,h=>by
  have le:∀(l d:List L2.Key),(l.foldl L2.gd d).length<=d.length + l.length:=by
   intro l;induction l with
   | nil=>intro d;simp
   | cons a l g =>
    intro d;simp only[UX,fk];have:=g (L2.gd d a);have e:=L2.yZ d a;split at e <;> lia
  simp only[UX,fk]
  by_cases f:v∈d
  ·have e:L2.gd d v=d:=if_pos (j3.mpr ⟨v,f,by simp⟩)
   rw[e];constructor
   ·intro z;have:=le l d
    lia
   ·rintro⟨_,z⟩;exact absurd f (z v (eH ..))
  ·have e:L2.gd d v=d++[v]:=if_neg (λz=>by
    obtain⟨a,i,e⟩:=j3.mp z;cases of_decide_eq_true e;exact f i)
   have h':(d++[v]).Nodup:=by
    rw[ia];refine⟨h,by simp,?_⟩
    intro a i b j;cases iR.mp j;exact λz=>f (z ▸ i)
   have g:=zE l (d++[v]) h';simp only[eJ,TV] at g;rw[e,show d.length + (l.length + 1)=d.length + 1 + l.length from by lia,g,ib]
   constructor
   ·rintro⟨a,b⟩;refine⟨⟨λz=>b v z (by simp),a⟩,?_⟩
    intro x hx
    rcases cR.mp hx with rfl | hx
    ·exact f
    ·exact λz=>b x hx (by simp[z])
   ·rintro⟨⟨a,b⟩,c⟩;refine⟨b,λx hx z=>?_⟩
    rcases ee.mp z with z | z
    ·exact c x (ew _ hx) z
    ·cases iR.mp z;exact a hx
def zO (ys):ku ys=ys.length ↔ ys.Nodup:=by
 dsimp only[ku,L2.du];have e:(lp ys.length).map (λi=>(nE ((ys[i]?).getD n4):L2.Key))=ys.map nE:=by
  apply XP
  ·simp
  ·intro i h1 b;have:i < ys.length:=by simpa using b
   simp[this]
 rw[e];have:=zE (ys.map nE) [] za;simp only[a8,wm,t9] at this;rw[this];constructor
 ·rintro⟨a,_⟩;exact (hF.mp a).imp λh z=>h (by rw[z])
 ·intro a;exact⟨hF.mpr (a.imp λh z=>h (Sum.inr.inj z)),λx _ z=>by cases z⟩
structure bC (rs:Fl):Prop where
 ne:rs≠[]
 bL:rs.length<=8
 nm:∀x∈rs,dq x.1=true
 row:∀x∈rs,0<=x.2.l/\x.2.l < x.2.r/\0<=x.2.b/\x.2.b < x.2.t
 nd:(rs.map (·.1)).Nodup
 ap:rs.Pairwise λx y=>Hs.Apart x.2 y.2
 ar:tJ rs=cT rs * cO rs
end bW
namespace bW
def vV (hx:x.ok)(c:y.ok)(a:k < 4):(lT x y=some k) ↔ df k x y=true:=by
 unfold Hs.Ob.ok at hx c;have a1:0 < mx x y ↔ x.l < y.r/\y.l < x.r:=by
  dsimp only[mx,Hs.mF,Hs.imax];split <;> split <;> omega
 have a2:0 < jS x y ↔ x.b < y.t/\y.b < x.t:=by
  dsimp only[jS,Hs.mF,Hs.imax];split <;> split <;> omega
 have a3:mx x y=0 ↔ y.l=x.r\/y.r=x.l:=by
  dsimp only[mx,Hs.mF,Hs.imax];split <;> split <;> omega
 have a4:jS x y=0 ↔ y.b=x.t\/y.t=x.b:=by
  dsimp only[jS,Hs.mF,Hs.imax];split <;> split <;> omega
 have a:k=0\/k=1\/k=2\/k=3:=by lia
 unfold lT
 rcases a with rfl | rfl | rfl | rfl
 ·rw[show df 0 x y=(decide (y.b=x.t) && (decide (x.l < y.r) && decide (y.l < x.r))) from rfl]
  simp only[dV,decide_eq_true_eq];constructor
  ·intro h;split at h
   ·split at h
    ·lia
    ·cases h
   ·split at h
    ·split at h <;> cases h
    ·cases h
  ·intro h;rw[if_pos (by lia),if_pos h.1]
 ·rw[show df 1 x y=(decide (y.l=x.r) && (decide (x.b < y.t) && decide (y.b < x.t))) from rfl]
  simp only[dV,decide_eq_true_eq];constructor
  ·intro h;split at h
   ·split at h <;> cases h
   ·split at h
    ·split at h
     ·lia
     ·cases h
    ·cases h
  ·intro h;rw[if_neg (by omega),if_pos (by lia),if_pos h.1]
 ·rw[show df 2 x y=(decide (y.t=x.b) && (decide (x.l < y.r) && decide (y.l < x.r))) from rfl]
  simp only[dV,decide_eq_true_eq];constructor
  ·intro h;split at h
   ·split at h
    ·cases h
    ·lia
   ·split at h
    ·split at h <;> cases h
    ·cases h
  ·intro h;rw[if_pos (by lia),if_neg (by omega)]
 ·rw[show df 3 x y=(decide (y.r=x.l) && (decide (x.b < y.t) && decide (y.b < x.t))) from rfl]
  simp only[dV,decide_eq_true_eq];constructor
  ·intro h;split at h
   ·split at h <;> cases h
   ·split at h
    ·split at h
     ·cases h
     ·lia
    ·cases h
  ·intro h;rw[if_neg (by omega),if_pos (by lia),if_neg (by omega)]
def bC.fx (F:bC rs)(hx:x∈rs):x.2.r<=cT rs/\x.2.t<=cO rs:=⟨uc (a9.mpr ⟨x,hx,rfl⟩),uc (a9.mpr ⟨x,hx,rfl⟩)⟩
theorem bC.ok (F:bC rs)(hx:x∈rs):x.2.ok:=⟨(F.row x hx).2.1,(F.row x hx).2.2.2⟩
def bC.hit (F:bC rs)(d:0<=p)(h2:p < cT rs)(f:0<=q)(h4:q < cO rs):∃y∈rs,y.2.l<=p/\p < y.2.r/\y.2.b<=q/\q < y.2.t:=by
 obtain⟨o,c,e⟩:=cf.filled (W:=(cT rs).toNat) (H:=(cO rs).toNat) (os:=rs.map (·.2)) (x:=p) (y:=q) (λo c=>by
  obtain⟨x,hx,rfl⟩:=a9.mp c;have a:=F.row x hx;have b:=F.fx hx;exact⟨a.1,a.2.1,by omega,a.2.2.1,a.2.2.2,by omega⟩) (hF.mpr F.ap) (by
  rw[hA];have:=F.ar;unfold tJ at this;rw[show (Hs.Ob.dY ∘ λx:eT×Hs.Ob=>x.2)=λx=>x.2.dY from rfl,this,sr (by lia),sr (by lia)]) d (by omega) f (by lia)
 obtain⟨x,hx,rfl⟩:=a9.mp c;exact⟨x,hx,e⟩
theorem jI {b:Type}{R:b->b->Prop}{l:List b}(h:l.Pairwise R) {x y:b}(hx:x∈l) (a:y∈l):x=y\/R x y\/R y x:=by
 induction h with
 | nil=>cases hx
 | cons d _ e =>
  rcases cR.mp hx with rfl | c
  ·rcases cR.mp a with rfl | a
   ·exact .inl rfl
   ·exact .inr (.inl (d y a))
  ·rcases cR.mp a with rfl | a
   ·exact .inr (.inr (d x c))
   ·exact e c a
noncomputable def gQ (rs:Fl) (x:Hs.Ob) (k:Nat):Prop:=if k=0 then x.t=cO rs else if k=1 then x.r=cT rs else if k=2 then x.b=0 else x.l=0
noncomputable instance (rs:Fl) (x:Hs.Ob) (k:Nat):Decidable (gQ rs x k):=by unfold gQ;infer_instance
def bC.inner (F:bC rs)(hx:x∈rs)(f:k < 4)(h:¬gQ rs x.2 k):cD rs x.2 k≠[]:=by
 have a:=F.row x hx;have b:=F.fx hx;have key:∃y∈rs,df k x.2 y.2=true:=by
  have f:k=0\/k=1\/k=2\/k=3:=by lia
  rcases f with rfl | rfl | rfl | rfl
  ·have h:¬x.2.t=cO rs:=h;obtain⟨y,d,e⟩:=F.hit (p:=x.2.l) (q:=x.2.t) (by omega) (by omega) (by omega) (by omega)
   refine⟨y,d,?_⟩;have c:y.2.b=x.2.t:=by
    rcases jI F.ap hx d with rfl | z | z
    ·omega
    ·unfold Hs.Apart at z;omega
    ·unfold Hs.Apart at z;omega
   show (decide (y.2.b=x.2.t) && (decide (x.2.l < y.2.r) && decide (y.2.l < x.2.r)))=true;simp only[dV,decide_eq_true_eq];omega
  ·have h:¬x.2.r=cT rs:=h;obtain⟨y,d,e⟩:=F.hit (p:=x.2.r) (q:=x.2.b) (by omega) (by omega) (by omega) (by omega)
   refine⟨y,d,?_⟩;have c:y.2.l=x.2.r:=by
    rcases jI F.ap hx d with rfl | z | z
    ·omega
    ·unfold Hs.Apart at z;omega
    ·unfold Hs.Apart at z;omega
   show (decide (y.2.l=x.2.r) && (decide (x.2.b < y.2.t) && decide (y.2.b < x.2.t)))=true;simp only[dV,decide_eq_true_eq];omega
  ·have h:¬x.2.b=0:=h;obtain⟨y,d,e⟩:=F.hit (p:=x.2.l) (q:=x.2.b - 1) (by omega) (by omega) (by omega) (by omega)
   refine⟨y,d,?_⟩;have c:y.2.t=x.2.b:=by
    rcases jI F.ap hx d with rfl | z | z
    ·omega
    ·unfold Hs.Apart at z;omega
    ·unfold Hs.Apart at z;omega
   show (decide (y.2.t=x.2.b) && (decide (x.2.l < y.2.r) && decide (y.2.l < x.2.r)))=true;simp only[dV,decide_eq_true_eq];omega
  ·have h:¬x.2.l=0:=h;obtain⟨y,d,e⟩:=F.hit (p:=x.2.l - 1) (q:=x.2.b) (by omega) (by omega) (by omega) (by omega)
   refine⟨y,d,?_⟩;have c:y.2.r=x.2.l:=by
    rcases jI F.ap hx d with rfl | z | z
    ·omega
    ·unfold Hs.Apart at z;omega
    ·unfold Hs.Apart at z;omega
   show (decide (y.2.r=x.2.l) && (decide (x.2.b < y.2.t) && decide (y.2.b < x.2.t)))=true;simp only[dV,decide_eq_true_eq];omega
 obtain⟨y,d,e⟩:=key;intro z;unfold cD at z;rw[W9] at z;have:y∈rs.filter λy=>df k x.2 y.2:=ft.mpr ⟨d,e⟩
 rw[z] at this;cases this
def bC.outer (F:bC rs)(hx:x∈rs)(c:k < 4)(h:gQ rs x.2 k):cD rs x.2 k=[]:=by
 unfold cD;rw[W9,List.filter_eq_nil_iff];intro y d z;have a:=F.row y d;have b:=F.fx d;have c:k=0\/k=1\/k=2\/k=3:=by lia
 rcases c with rfl | rfl | rfl | rfl
 ·have h:x.2.t=cO rs:=h;have z:(decide (y.2.b=x.2.t) && _)=true:=z;rw[dV,decide_eq_true_eq] at z;omega
 ·have h:x.2.r=cT rs:=h;have z:(decide (y.2.l=x.2.r) && _)=true:=z;rw[dV,decide_eq_true_eq] at z;omega
 ·have h:x.2.b=0:=h;have z:(decide (y.2.t=x.2.b) && _)=true:=z;rw[dV,decide_eq_true_eq] at z;omega
 ·have h:x.2.l=0:=h;have z:(decide (y.2.r=x.2.l) && _)=true:=z;rw[dV,decide_eq_true_eq] at z;omega
def bC.nodup (F:bC rs)(x:Hs.Ob)(i:k < 4):((cD rs x k).map (·.1)).Nodup:=by
 unfold cD;rw[hA];refine hF.mpr ?_;have h:rs.Pairwise λy z=>df k x y.2=true->df k x z.2=true->dI k y.2≠dI k z.2:=by
  refine Rr (λ{y z} f g ap d c e=>?_) F.ap
  have a:=F.row y f;have b:=F.row z g;unfold Hs.Apart at ap;have i:k=0\/k=1\/k=2\/k=3:=by lia
  rcases i with rfl | rfl | rfl | rfl
  ·have d:(decide (y.2.b=x.t) && _)=true:=d;have c:(decide (z.2.b=x.t) && _)=true:=c;have e:y.2.l=z.2.l:=e;rw[dV,decide_eq_true_eq] at d c;omega
  ·have d:(decide (y.2.l=x.r) && _)=true:=d;have c:(decide (z.2.l=x.r) && _)=true:=c;have e:- y.2.b=- z.2.b:=e;rw[dV,decide_eq_true_eq] at d c;omega
  ·have d:(decide (y.2.t=x.b) && _)=true:=d;have c:(decide (z.2.t=x.b) && _)=true:=c;have e:- y.2.l=- z.2.l:=e;rw[dV,decide_eq_true_eq] at d c;omega
  ·have d:(decide (y.2.r=x.l) && _)=true:=d;have c:(decide (z.2.r=x.l) && _)=true:=c;have e:y.2.b=z.2.b:=e;rw[dV,decide_eq_true_eq] at d c;omega
 have c:=h.filter (λy=>df k x y.2)
 refine Rr (λ{y z} f g q=>?_) c
 exact q (ft.mp f).2 (ft.mp g).2
def bC.pos (F:bC rs):0 < cT rs/\0 < cO rs:=by
 obtain⟨x,hx⟩:=Wf rs F.ne;have a:=F.row x hx;have b:=F.fx hx
 lia
noncomputable def i9 (rs:Fl) (k:Nat):Hs.Ob:=if k=0 then ⟨0,cO rs,cT rs,cO rs + 1⟩ else if k=1 then ⟨cT rs,0,cT rs + 1,cO rs⟩ else if k=2 then ⟨0,-1,cT rs,0⟩ else ⟨-1,0,0,cO rs⟩
def GY (F:bC rs)(hx:x∈rs)(c:k < 4):hU x.2 (jg rs) k=if gQ rs x.2 k then [(dI k (i9 rs k),aN k)] else []:=by
 have a:=F.row x hx;have b:=F.fx hx;have p:=F.pos;have key:∀j,j < 4->(decide (lT x.2 (i9 rs j)=some k)=(decide (j=k) && decide (gQ rs x.2 k))):=by
  intro j d;rw[sb,dV,decide_eq_true_eq,decide_eq_true_eq,decide_eq_true_eq];have ok:(i9 rs j).ok:=by
   have d:j=0\/j=1\/j=2\/j=3:=by lia
   rcases d with rfl | rfl | rfl | rfl
   ·exact⟨show (0:Int) < cT rs by omega,show cO rs < cO rs + 1 by lia⟩
   ·exact⟨show cT rs < cT rs + 1 by lia,show (0:Int) < cO rs by omega⟩
   ·exact⟨show (0:Int) < cT rs by omega,show (-1:Int) < 0 by omega⟩
   ·exact⟨show (-1:Int) < 0 by omega,show (0:Int) < cO rs by omega⟩
  rw[vV (F.ok hx) ok c];have d:j=0\/j=1\/j=2\/j=3:=by lia
  have c:k=0\/k=1\/k=2\/k=3:=by lia
  rcases d with rfl | rfl | rfl | rfl <;> rcases c with rfl | rfl | rfl | rfl <;> simp[df,ki,i9,gQ] <;> omega
 have g:(jg rs).filter (λy=>decide (lT x.2 y.2=some k))=if gQ rs x.2 k then [(aN k,i9 rs k)] else []:=by
  have e:jg rs=[(aN 0,i9 rs 0),(aN 1,i9 rs 1),(aN 2,i9 rs 2),(aN 3,i9 rs 3)]:=rfl;rw[e];simp only[T1,List.filter_nil,key 0 (by decide),key 1 (by decide),key 2 (by decide),key 3 (by decide)]
  have c:k=0\/k=1\/k=2\/k=3:=by lia
  by_cases f:gQ rs x.2 k
  ·simp only[decide_eq_true f,if_pos f]
   rcases c with rfl | rfl | rfl | rfl <;> rfl
  ·simp only[decide_eq_false f,if_neg f,Bool.and_false];rfl
 unfold hU;rw[g];split <;> rfl
def MB (F:bC rs)(hx:x∈rs)(a:k < 4):hU x.2 (rs++jg rs) k=if gQ rs x.2 k then [(dI k (i9 rs k),aN k)] else cD rs x.2 k:=by
 have b:hU x.2 (rs++jg rs) k=hU x.2 rs k++hU x.2 (jg rs) k:=by
  unfold hU;rw[List.filter_append,f']
 have c:hU x.2 rs k=cD rs x.2 k:=by
  unfold hU cD;congr 1;refine VC λy d=>?_
  rw[sb,decide_eq_true_eq];exact vV (F.ok hx) (F.ok d) a
 simp only[b,c,GY F hx a]
 by_cases h:gQ rs x.2 k
 ·rw[if_pos h,if_pos h,F.outer hx a h];rfl
 ·rw[if_neg h,if_neg h,xr]
def MU (F:bC rs)(hx:x∈rs)(a:k < 4):(fR (hU x.2 (rs++jg rs) k)).map (·.2)=dS rs x.2 k:=by
 rw[MB F hx a];unfold dS
 by_cases h:gQ rs x.2 k
 ·rw[if_pos h,if_pos (F.outer hx a h)];unfold fR;simp
 ·rw[if_neg h,if_neg (F.inner hx a h)]
def bC.some (F:bC rs)(x:Hs.Ob):vq rs x:=λ_ a=>F.nodup x a
end bW
namespace bW
section
variable {P:hJ}{w:kq}{K:gj}{mg:eT->Option b8}{base:m3}
noncomputable def cL (o:Hs.Ob):Dat:=.tup [.int o.l,.int o.b,.int o.r,.int o.t]
noncomputable def Bx (o:Hs.Ob):Prop:=0<=o.l/\o.l < o.r/\o.r<=10 ^ 27 + 2/\0<=o.b/\o.b < o.t/\o.t<=10 ^ 27 + 2
def Bx.of {o x:Hs.Ob}{os:List Hs.Ob}(h:Bx o) (c:cf.Cuts o os) (hx:x∈os):Bx x:=by
 have:=c.aE x hx;unfold Bx at *;omega
noncomputable def mr (o:Hs.Ob) (k:Nat) (a:Int):List Hs.Ob:=if k=0 then [⟨o.l,o.b,o.r,a⟩,⟨o.l,a,o.r,o.t⟩] else [⟨o.l,o.b,a,o.t⟩,⟨a,o.b,o.r,o.t⟩]
noncomputable def zS (fn:aQ):Prop:=∀(o:Hs.Ob) (k:Nat) (a:Int),k=0\/k=1->fn [cL o,.int (k:Int),.int a]=some (.own (.lst ((mr o k a).map cL)))
def Ls (T:Txt mg)(F:L2.bA K "_law_halved" "_law_halved" uL f c):∃fn,aV P w K mg base aX 1 f c ["_law_sides","_law_way","_law_at"] (aF K fn)/\zS fn:=by
 refine' ck F Aq (n:=3) rfl ?C ?B
 case C =>
  intro cdv A outer s H E hr;have nd:=Aq.nd;cases T
  walk_at "ds"
 case B =>
  clear T F;rintro o k a (rfl | rfl)
  ·refine' cx rfl ?w
   case w =>
    show WS _ [.dat (.tup [.int o.l,.int o.b,.int o.r,.int o.t]),.dat (.int 0),.dat (.int a),.no,.no,.no,.no] _
    walk_at "w"
    refine' sh (bq (au rfl rfl (eq_int _ _))) (by decide) ?_
    walk_at "w"
    exact⟨_,rfl⟩
  ·refine' cx rfl ?w
   case w =>
    show WS _ [.dat (.tup [.int o.l,.int o.b,.int o.r,.int o.t]),.dat (.int 1),.dat (.int a),.no,.no,.no,.no] _
    walk_at "w"
    refine' kL (bq (au rfl rfl (eq_int _ _))) (by decide) ?_
    walk_at "w"
    exact⟨_,rfl⟩
noncomputable def Av (fn:dM):Prop:=∀(p:Int×Int) (o:Hs.Ob),Bx o->2 < o.r - o.l->2 < o.t - o.b->∃r a,fn (pD p) [cL o]=some (r,a)/\∃(os:List Hs.Ob) (c:Int×Int),r=.own (.lst (os.map cL))/\a=pD c/\os.length=5/\cf.Cuts o os
def Ha (T:Txt mg) (I:bw P w K mg base "_law_take" 1 (cV K 0 fA))(F:L2.bA K "_law_whirled" "_law_whirled" tT f x):∃fn,aV P w K mg base aX 2 f x ["_law_sides","_law_purse_here"] (cV K 1 fn)/\Av fn:=by
 refine' mP (j:=1) F x6 (n:=1) rfl ?J ?B
 case J =>
  intro cdv A outer s H E hr;have nd:=x6.nd;cases T;have lk:kP "_law_purse_here":=⟨trivial⟩
  walk_at "ds"
 case B =>
  clear T F I;rintro p o L hw hh;obtain⟨l,b,r,t⟩:=o;obtain⟨M,N,O,Q,R,S⟩:=L;dsimp only at M N O Q R S hw hh;have lg:∀m:Int,0 < m->m<=10 ^ 27 + 2->0 < m/\m.natAbs.log2 < 9000:=λm h h'=>⟨h,pY (by
   have:m.natAbs < 2 ^ 91:=by omega
   exact TN this (W5 (by decide) (by decide)))⟩
  have y:=e8 p (r - l - 2) (lg _ (by omega) (by omega))
  obtain⟨U,V⟩:=eX p (m:=r - l - 2) (by omega)
  generalize aT p (r - l - 2)=a at y U V;generalize cE p (r - l - 2)=i at y;have z:=e8 i (r - (l + 1 + a) - 1) (lg _ (by omega) (by omega))
  obtain⟨W,X⟩:=eX i (m:=r - (l + 1 + a) - 1) (by omega)
  generalize aT i (r - (l + 1 + a) - 1)=d at z W X;generalize cE i (r - (l + 1 + a) - 1)=k at z;have C:=e8 k (t - b - 2) (lg _ (by omega) (by omega))
  obtain⟨Y,Z⟩:=eX k (m:=t - b - 2) (by omega)
  generalize aT k (t - b - 2)=c at C Y Z;generalize cE k (t - b - 2)=q at C;have D:=e8 q (t - (b + 1 + c) - 1) (lg _ (by omega) (by omega))
  obtain⟨u7,u8⟩:=eX q (m:=t - (b + 1 + c) - 1) (by omega)
  generalize aT q (t - (b + 1 + c) - 1)=e at D u7 u8;generalize cE q (t - (b + 1 + c) - 1)=g at D;have u:=e8 g 2 (lg _ (by omega) (by omega))
  obtain⟨u9,G⟩:=eX g (m:=2) (by omega)
  generalize aT g 2=z0 at u u9 G;generalize cE g 2=v at u;refine' m8 rfl ?w
  case w =>
   show WS _ [.dat (.tup [.int l,.int b,.int r,.int t]),.io (pD p),.no,.no,.no,.no,.no,.no,.no,.no,.no] _
   walk_at "w"
   show WS _ [.dat (.tup [.int l,.int b,.int r,.int t]),.io (pD g),.dat (.int l),.dat (.int b),.dat (.int r),.dat (.int t),.dat (.int (l + 1 + a)),.dat (.int (l + 1 + a + 1 + d)),.dat (.int (b + 1 + c)),.dat (.int (b + 1 + c + 1 + e)),.dat (.tup [.int (l + 1 + a),.int (b + 1 + c),.int (l + 1 + a + 1 + d),.int (b + 1 + c + 1 + e)])] _;refine' eL (Z1:=[.dat (.tup [.int l,.int b,.int r,.int t]),.io (pD v),.dat (.int l),.dat (.int b),.dat (.int r),.dat (.int t),.dat (.int (l + 1 + a)),.dat (.int (l + 1 + a + 1 + d)),.dat (.int (b + 1 + c)),.dat (.int (b + 1 + c + 1 + e)),.dat (.tup [.int (l + 1 + a),.int (b + 1 + c),.int (l + 1 + a + 1 + d),.int (b + 1 + c + 1 + e)])]) (bq (au (ak (cZ rfl oX rfl u rfl) rfl) rfl (eq_int _ _))) (λh=>?_) (λh=>?_)
   ·walk_at "w"
    refine⟨_,_,_,rfl,rfl,[⟨l,b,(l + 1 + a + 1 + d),(b + 1 + c)⟩,⟨(l + 1 + a + 1 + d),b,r,(b + 1 + c + 1 + e)⟩,⟨(l + 1 + a),(b + 1 + c + 1 + e),r,t⟩,⟨l,(b + 1 + c),(l + 1 + a),t⟩,⟨(l + 1 + a),(b + 1 + c),(l + 1 + a + 1 + d),(b + 1 + c + 1 + e)⟩],v,rfl,rfl,rfl,?_⟩;exact cf.Cuts.Og (by omega) (by omega) (by omega) (by omega) (by omega) (by omega)
   ·walk_at "w"
    refine⟨_,_,_,rfl,rfl,[⟨(l + 1 + a),b,r,(b + 1 + c)⟩,⟨(l + 1 + a + 1 + d),(b + 1 + c),r,t⟩,⟨l,(b + 1 + c + 1 + e),(l + 1 + a + 1 + d),t⟩,⟨l,b,(l + 1 + a),(b + 1 + c + 1 + e)⟩,⟨(l + 1 + a),(b + 1 + c),(l + 1 + a + 1 + d),(b + 1 + c + 1 + e)⟩],v,rfl,rfl,rfl,?_⟩;exact cf.Cuts.F1 (by omega) (by omega) (by omega) (by omega) (by omega) (by omega)
noncomputable def xM (fn:dM):Prop:=∀(p:Int×Int) (c:Int),1<=c->c<=10->∃r d,fn (pD p) [.int c]=some (r,d)/\∃(os:List Hs.Ob) (e:Int×Int) (a:Hs.Ob),r=.own (.lst (os.map cL))/\d=pD e/\os.length<=8/\Bx a/\a.l=0/\a.b=0/\cf.Cuts a os
noncomputable def nM (o:Hs.Ob):List DV.Slot:=[.dat (.int o.l),.dat (.int o.b),.dat (.int o.r),.dat (.int o.t)]
noncomputable def DP (T:List DV.Slot):Prop:=T=[.no,.no,.no,.no]\/∃o,T=nM o
def Bx.lg {m:Int}(h:0 < m) (h':m<=10 ^ 27 + 2):0 < m/\m.natAbs.log2 < 9000:=⟨h,pY (by
 have:m.natAbs < 2 ^ 91:=by omega
 exact TN this (W5 (by decide) (by decide)))⟩
def K' {os:List Hs.Ob}{j:Nat}{o:Hs.Ob}(h:os[j]? = some o):dv (.lst (os.map cL)) (.int (j:Int))=some (cL o):=by
 rw[mG];exact mM (by rw[cn,h];rfl)
def BR (os:List Hs.Ob) (j:Nat):eV (.lst (os.map cL)) none (some (j:Int))=some (.own (.lst ((os.take j).map cL))):=by
 show some (Res.own (.lst (DV.cutD (os.map cL) none (some (j:Int)))))=_;rw[mm,Hz]
def CO (os:List Hs.Ob) (j:Nat):eV (.lst (os.map cL)) (some ((j:Int) + 1)) none=some (.own (.lst ((os.drop (j + 1)).map cL))):=by
 show some (Res.own (.lst (DV.cutD (os.map cL) (some ((j:Int) + 1)) none)))=_;rw[show ((j:Int) + 1)=((j + 1:Nat):Int) from by push_cast;rfl,pj,H9]
def KI (h:Bx o)(e:k=0\/k=1)(c:(if k=0 then o.b else o.l) < a)(d:a < (if k=0 then o.t else o.r)):cf.Cuts o (mr o k a):=by
 unfold Bx at h;unfold mr
 rcases e with rfl | rfl
 ·rw[if_pos rfl] at c d;rw[if_pos rfl];exact cf.Cuts.up ⟨h.2.1,h.2.2.2.2.1⟩ c d
 ·rw[if_neg (by decide)] at c d
  rw[if_neg (by decide)]
  exact cf.Cuts.on ⟨h.2.1,h.2.2.2.2.1⟩ c d
def Em (T:Txt mg) (T2:j7 mg) (p1:bw P w K mg base "_law_take" 1 (cV K 0 fA))(p2:bw P w K mg base "_law_whirled" 2 (cV K 1 W))(s2:Av W)(p3:bw P w K mg base "_law_halved" 1 (aF K X))(s3:zS X)(F:L2.bA K "_law_cut_up" "_law_cut_up" uP f fd):∃fn,aV P w K mg base aX 3 f fd ["_law_purse_here","_law_most"] (cV K 0 fn)/\xM fn:=by
 refine' mP (j:=0) F Cn (n:=1) rfl ?C ?post
 case C =>
  intro cdv A outer s H E hr;have nd:=Cn.nd;cases T;cases T2;have lk:kP "_law_purse_here":=⟨trivial⟩
  walk_at "ds"
 case post =>
  clear T T2 F p1 p2 p3;rintro p c mo1 mo10;refine' m8 rfl ?w
  case w =>
   show WS _ [.io (pD p),.dat (.int c),.no,.no,.no,.no,.no,.no,.no,.no,.no,.no] _;have t1:=e8 p 5 (Bx.lg (by decide) (by decide))
   obtain⟨u1,u2⟩:=eX p (m:=5) (by decide)
   obtain⟨g,eg,R,g1⟩:∃g:Int,dv (.lst [.int 4,.int 9,.int 30,.int (10 ^ 6),.int (10 ^ 27)]) (.int (aT p 5))=some (.int g)/\0 < g/\g<=10 ^ 27:=by
    have:aT p 5=0\/aT p 5=1\/aT p 5=2\/aT p 5=3\/aT p 5=4:=by lia
    rcases this with e | e | e | e | e <;> rw[e]
    ·exact⟨4,rfl,by decide,by decide⟩
    ·exact⟨9,rfl,by decide,by decide⟩
    ·exact⟨30,rfl,by decide,by decide⟩
    ·exact⟨10 ^ 6,rfl,by decide,by decide⟩
    ·exact⟨10 ^ 27,rfl,by decide,by decide⟩
   have l5:dA (fC (Dat.int 4)) (dA (fC (Dat.int 9)) (dA (fC (Dat.int 30)) (dA (fM (cg (dX rY λi j=>Dat.int (i ^ j.toNat)) (fC (Dat.int 10)) (fC (Dat.int 6)))) (dA (fM (cg (dX rY λi j=>Dat.int (i ^ j.toNat)) (fC (Dat.int 10)) (fC (Dat.int 27)))) iK)))) [.io (pD p),.dat (.int c),.no,.no,.no,.no,.no,.no,.no,.no,.no,.no]=some ([.int 4,.int 9,.int 30,.int (10 ^ 6),.int (10 ^ 27)],[.io (pD p),.dat (.int c),.no,.no,.no,.no,.no,.no,.no,.no,.no,.no]) :=
    ag rfl (ag rfl (ag rfl (ag (ak (au rfl rfl (jY (by decide +kernel))) rfl) (ag (ak (au rfl rfl (jY (by decide +kernel))) rfl) ao))))
   refine' aj (aJ (Z2:=[.io (pD (cE p 5)),.dat (.int c),.dat (.int g),.no,.no,.no,.no,.no,.no,.no,.no,.no]) (v_res (kU (ak (dz l5 (by show 5<=bg;unfold bg;decide)) rfl) (ak (cZ rfl oX rfl t1 rfl) rfl) eg)) rfl (aq ?_))
   generalize cE p 5=u;have t2:=e8 u g (Bx.lg R (by lia))
   obtain⟨u3,u4⟩:=eX u R;have t3:=e8 (cE u g) g (Bx.lg R (by lia))
   obtain⟨u5,u6⟩:=eX (cE u g) R;refine' aj (aJ (Z2:=[.io (pD (cE (cE u g) g)),.dat (.int c),.dat (.int g),.own (.lst ([(⟨0,0,2 + aT u g,2 + aT (cE u g) g⟩:Hs.Ob)].map cL)),.no,.no,.no,.no,.no,.no,.no,.no]) (dz (ag (il (ag rfl (ag rfl (ag (ak (au rfl (ak (cZ rfl (ag rfl ao) rfl t2 rfl) rfl) rfl) rfl) (ag (ak (au rfl (ak (cZ rfl (ag rfl ao) rfl t3 rfl) rfl) rfl) rfl) ao)))) (by show 4<=bg;unfold bg;decide)) ao) (by show 1<=bg;unfold bg;decide)) rfl (aq ?_))
   have N:Bx ⟨0,0,2 + aT u g,2 + aT (cE u g) g⟩:=by unfold Bx;dsimp only;lia
   have z0:(⟨0,0,2 + aT u g,2 + aT (cE u g) g⟩:Hs.Ob).l=0/\(⟨0,0,2 + aT u g,2 + aT (cE u g) g⟩:Hs.Ob).b=0:=⟨rfl,rfl⟩;generalize (⟨0,0,2 + aT u g,2 + aT (cE u g) g⟩:Hs.Ob)=o0 at N z0;generalize cE (cE u g) g=q1;have I:=e8 q1 c (Bx.lg (by omega) (by lia))
   obtain⟨u7,u8⟩:=eX q1 (m:=c) (by omega)
   refine' aj (d7 (λk Z=>∃(q:Int×Int) (os:List Hs.Ob) (I O:DV.Slot) (T:List DV.Slot) (z v:DV.Slot),Fr I/\Fr O/\DP T/\Fr z/\Fr v/\Z=.io (pD q)::.dat (.int c)::.dat (.int g)::.own (.lst (os.map cL))::I::O::(T++[z,v])/\0 < os.length/\os.length<=8/\cf.Cuts o0 os) (oI (n:=aT q1 c) (ag (ak (cZ rfl (ag rfl ao) rfl I rfl) rfl) ao) (by lia)) ?S ?st ?fin)
   case S=>exact⟨_,[o0],.no,.no,_,.no,.no,.inl rfl,.inl rfl,.inl rfl,.inl rfl,.inl rfl,rfl,(show 0 < 1 by decide),(show 1<=8 by decide),cf.Cuts.one ⟨N.2.1,N.2.2.2.2.1⟩⟩
   case st =>
    rintro k y hy Z ⟨q,os,I,O,T,z,v,f4,f5,hT,Y,G,rfl,S,h8,C⟩;clear t1 u1 u2 eg l5 t2 u3 u4 t3 u5 u6 u7 u8;obtain⟨hk,rfl⟩:=qU hy;have ln:dH (.lst (os.map cL))=some os.length:=by simp[dH]
    refine⟨.io (pD q)::.dat (.int c)::.dat (.int g)::.own (.lst (os.map cL))::.dat (.int (k:Int))::O::(T++[z,v]),by rcases f4 with rfl | ⟨d,rfl⟩ <;> rfl,?_⟩
    have s1:=e8 q (os.length:Int) (Bx.lg (by omega) (by lia))
    obtain⟨v1,v2⟩:=eX q (m:=(os.length:Int)) (by omega)
    obtain⟨j,hj⟩:∃j:Nat,aT q (os.length:Int)=(j:Int):=⟨(aT q (os.length:Int)).toNat,by lia⟩
    rw[hj] at s1 v2;have Po:j < os.length:=by omega
    obtain⟨o,U⟩:∃o,os[j]? = some o:=⟨os[j],cm Po⟩;have bo:=N.of C (eK U);have ix:=K' U;generalize cE q (os.length:Int)=J at s1;refine' aj (aJ (Z2:=.io (pD J)::.dat (.int c)::.dat (.int g)::.own (.lst (os.map cL))::.dat (.int (k:Int))::.dat (.int (j:Int))::(T++[z,v])) (cZ rfl (ag (dZ rfl ln) ao) rfl s1 rfl) ?x1 (aq ?_))
    case x1=>rcases f5 with rfl | ⟨d,rfl⟩ <;> rfl
    refine' aj (tL (Z2:=.io (pD J)::.dat (.int c)::.dat (.int g)::.own (.lst (os.map cL))::.dat (.int (k:Int))::.dat (.int (j:Int))::(nM o++[z,v])) (eO rfl rfl rfl ix) ?x2 (aq ?_))
    case x2=>rcases hT with rfl | ⟨y,rfl⟩ <;> rfl
    have s4:=e8 J 3 (Bx.lg (by decide) (by decide))
    obtain⟨v3,v4⟩:=eX J (m:=3) (by decide)
    generalize aT J 3=D at s4 v3 v4;generalize cE J 3=L at s4;refine' aj (aJ (Z2:=.io (pD L)::.dat (.int c)::.dat (.int g)::.own (.lst (os.map cL))::.dat (.int (k:Int))::.dat (.int (j:Int))::(nM o++[.dat (.int D),v])) (cZ rfl oX rfl s4 rfl) ?x3 (aq ?_))
    case x3=>rcases Y with rfl | ⟨d,rfl⟩ <;> rfl
    refine' aj (eL (hV (bq (au rfl rfl (eq_int _ _))) (hV (bq (au (ak (au rfl rfl rfl) rfl) rfl rfl)) (hV (bq (au (ak (au rfl rfl rfl) rfl) rfl rfl)) (bq (au (dZ rfl ln) rfl rfl))))) (λh=>?_) (λh=>?_))
    ·simp only[dV,decide_eq_true_eq] at h;obtain⟨r,c1,e,Q,p',rfl,rfl,l5,b5⟩:=s2 L o bo h.2.1 h.2.2.1;have hl5:=h.2.2.2;refine' aj (aJ (Z2:=.io (pD p')::.dat (.int c)::.dat (.int g)::.own (.lst ((os.take j++Q++os.drop (j + 1)).map cL))::.dat (.int (k:Int))::.dat (.int (j:Int))::(nM o++[.dat (.int D),v])) (au (ak (au (ak (iD rfl rfl (BR os j)) rfl) (ak (cZ rfl (ag (eO rfl rfl rfl ix) ao) rfl e rfl) rfl) (dW ?y1)) rfl) (ak (ji rfl (ak (au rfl rfl rfl) rfl) (CO os j)) rfl) (dW ?y2)) ?y3 (aq (bf (aq (bf (o6 ?y4))))))
     case y1=>simp only[a8,a8,gg];unfold bg;omega
     case y2=>simp only[eJ,a8,a8,a8,gg,j1];unfold bg;omega
     case y3=>rw[f',f'];exact rfl
     case y4 =>
      refine⟨_,_,_,_,_,_,_,.inr ⟨_,rfl⟩,.inr ⟨_,rfl⟩,.inr ⟨o,rfl⟩,.inr ⟨_,rfl⟩,G,rfl,?_,?_,C.Cd U b5⟩
      ·rw[eJ,eJ];lia
      ·simp only[eJ,eJ,gg,j1];omega
    clear h;obtain⟨x,Pp,B⟩:∃x:Nat,D % 2=(x:Int)/\(x=0\/x=1):=⟨(D % 2).toNat,by omega,by omega⟩
    have V:dX (λ_ j=>decide (0 < j)) (λi j=>Dat.int (i % j)) (.int D) (.int 2)=some (.dat (.int (x:Int))):=by rw[<- Pp];exact jY (by decide)
    obtain⟨sp,be,yq⟩:∃sp,dv (.lst [.int (o.t - o.b),.int (o.r - o.l)]) (.int (x:Int))=some (.int sp)/\sp=(if x=0 then o.t else o.r) - (if x=0 then o.b else o.l):=by
     rcases B with rfl | rfl
     ·exact⟨_,rfl,rfl⟩
     ·exact⟨_,rfl,rfl⟩
    obtain⟨lo,Pq,hlo⟩:∃lo,dv (.lst [.int o.b,.int o.l]) (.int (x:Int))=some (.int lo)/\lo=(if x=0 then o.b else o.l):=by
     rcases B with rfl | rfl
     ·exact⟨_,rfl,rfl⟩
     ·exact⟨_,rfl,rfl⟩
    have two:∀a b:Dat,[a,b].length<=sizeLine:=λ_ _=>by show 2<=bg;unfold bg;decide
    refine' aj (eL (hV (bq (au (dZ rfl ln) rfl rfl)) (bq (au (kU (ak (dz (ag (ak (au rfl rfl rfl) rfl) (ag (ak (au rfl rfl rfl) rfl) ao)) (two _ _)) rfl) (ak (au rfl rfl V) rfl) be) rfl rfl))) (λh=>?_) (λh=>?_))
    ·simp only[dV,decide_eq_true_eq] at h;obtain⟨hl8,hs1⟩:=h;have hsb:sp<=10 ^ 27 + 2:=by
      unfold Bx at bo
      rcases B with rfl | rfl
      ·rw[if_pos rfl,if_pos rfl] at yq;omega
      ·rw[if_neg (by decide),if_neg (by decide)] at yq;omega
     have s5:=e8 L (sp - 1) (Bx.lg (by omega) (by omega))
     obtain⟨v5,v6⟩:=eX L (m:=sp - 1) (by omega)
     generalize aT L (sp - 1)=M at s5 v5 v6;generalize cE L (sp - 1)=q4 at s5;refine' aj (aJ (Z2:=.io (pD q4)::.dat (.int c)::.dat (.int g)::.own (.lst (os.map cL))::.dat (.int (k:Int))::.dat (.int (j:Int))::(nM o++[.dat (.int D),.dat (.int (lo + 1 + M))])) (au (ak (au (kU (ak (dz (ag rfl (ag rfl ao)) (two _ _)) rfl) (ak (au rfl rfl V) rfl) Pq) rfl rfl) rfl) (ak (cZ rfl (ag (ak (au (kU (ak (dz (ag (ak (au rfl rfl rfl) rfl) (ag (ak (au rfl rfl rfl) rfl) ao)) (two _ _)) rfl) (ak (au rfl rfl V) rfl) be) rfl rfl) rfl) ao) rfl s5 rfl) rfl) rfl) ?z1 (aq ?_))
     case z1=>rcases G with rfl | ⟨d,rfl⟩ <;> rfl
     have e:=s3 o x (lo + 1 + M) B;have Pu:(mr o x (lo + 1 + M)).length=2:=by unfold mr;split <;> rfl
     have bh:=KI bo B (a:=lo + 1 + M) (by lia) (by lia)
     generalize mr o x (lo + 1 + M)=Q at e Pu bh;refine' aj (aJ (Z2:=.io (pD q4)::.dat (.int c)::.dat (.int g)::.own (.lst ((os.take j++Q++os.drop (j + 1)).map cL))::.dat (.int (k:Int))::.dat (.int (j:Int))::(nM o++[.dat (.int D),.dat (.int (lo + 1 + M))])) (au (ak (au (ak (iD rfl rfl (BR os j)) rfl) (ak (aP (ag (eO rfl rfl rfl ix) (ag (ak (au rfl rfl V) rfl) (ag rfl ao))) e) rfl) (dW ?y1)) rfl) (ak (ji rfl (ak (au rfl rfl rfl) rfl) (CO os j)) rfl) (dW ?y2)) ?y3 (aq (bf (aq (bf (aq (bf (o6 ?y4))))))))
     case y1=>simp only[a8,a8,gg];unfold bg;omega
     case y2=>simp only[eJ,a8,a8,a8,gg,j1];unfold bg;omega
     case y3=>rw[f',f'];exact rfl
     case y4 =>
      refine⟨_,_,_,_,_,_,_,.inr ⟨_,rfl⟩,.inr ⟨_,rfl⟩,.inr ⟨o,rfl⟩,.inr ⟨_,rfl⟩,.inr ⟨_,rfl⟩,rfl,?_,?_,C.Cd U bh⟩
      ·rw[eJ,eJ];lia
      ·simp only[eJ,eJ,gg,j1];omega
    ·refine bf (aq (bf (aq (bf (o6 ?_)))));exact⟨_,os,_,_,_,_,_,.inr ⟨_,rfl⟩,.inr ⟨_,rfl⟩,.inr ⟨o,rfl⟩,.inr ⟨_,rfl⟩,G,rfl,S,h8,C⟩
   case fin =>
    rintro Z ⟨q,os,I,O,T,z,v,f4,f5,hT,Y,G,rfl,S,h8,C⟩;refine' aq (aj (bZ rfl (gH ?_)));exact⟨_,_,_,rfl,rfl,os,q,o0,rfl,rfl,h8,N,z0.1,z0.2,C⟩
def je (h:dq x=true):aZ x:=by
 unfold dq at h;simp only[dV,decide_eq_true_eq] at h;obtain⟨⟨⟨h0,h1⟩,b⟩,_⟩:=h;refine⟨?_,by lia⟩
 rw[z7];intro a c;have:=j4.mp b a (Th.mpr c);unfold fP at this;simp only[dV,decide_eq_true_eq,decide_eq_true_eq] at this;simp
 lia
theorem BP:∀(c:List e) (d:List f),(c.zip d).map (·.1)=c.take d.length
 | [],d=>by simp
 | a::c,[]=>by simp
 | a::c,b::d=>by
  simp only[Vp,gi,BP c d,fk,List.take_succ_cons]
def Ae (h:∀x∈rs,x<=W)(hw:W∈rs):mn rs=W:=by
 have h1:=uc hw;have h2:=h _ (Kw (λz=>by rw[z] at hw;cases hw))
 lia
noncomputable def Sm (rs:Fl):Prop:=∀x∈rs,x.2.r<=2 ^ 90/\x.2.t<=2 ^ 90
def En {d:List eT}{os:List Hs.Ob}{a:Hs.Ob}{rs:Fl}(hw:∀x∈d,dq x=true) (nw:d.Nodup) (h12:d.length=12) (h8:os.length<=8) (n:Bx a) (j:a.l=0) (k:a.b=0) (c:cf.Cuts a os) (p:rs.Perm (d.zip os)):bC rs/\zI rs/\Sm rs:=by
 have q:(d.zip os).length=os.length:=by rw[UU];lia
 have hl:rs.length=os.length:=by rw[p.length_eq,q]
 have s:(d.zip os).map (·.2)=os:=VQ (by lia)
 have u:(d.zip os).map (·.1)=d.take os.length:=BP d os;have g:cf.Cuts a (rs.map (·.2)):=c.perm (by rw[<- s];exact p.map _)
 have m:∀x∈rs,dq x.1=true:=λx hx=>hw x.1 (UT (p.mem_iff.mp hx)).1
 have h:∀x∈rs,a.l<=x.2.l/\x.2.l < x.2.r/\x.2.r<=a.r/\a.b<=x.2.b/\x.2.b < x.2.t/\x.2.t<=a.t:=λx hx=>g.aE x.2 (a9.mpr ⟨x,hx,rfl⟩)
 unfold Bx at n;obtain⟨y,i,k1,k2,k3,k4⟩:=cf.filled (W:=a.r.toNat) (H:=a.t.toNat) (os:=rs.map (·.2)) (x:=a.r - 1) (y:=a.t - 1) (λo v=>by
  have:=g.aE o v;exact⟨by omega,by omega,by omega,by omega,by omega,by omega⟩) g.ap (by
  rw[g.ar];unfold Hs.Ob.dY;rw[j,k,UZ,UZ,sr (by omega),sr (by omega)]) (by omega) (by omega) (by omega) (by omega)
 obtain⟨z,f,rfl⟩:=a9.mp i;have iz:=h z f;have A:cT rs=a.r:=Ae (λx hx=>by
  obtain⟨y,i,rfl⟩:=a9.mp hx;exact (h y i).2.2.1) (a9.mpr ⟨z,f,by omega⟩)
 have B:cO rs=a.t:=Ae (λx hx=>by
  obtain⟨y,i,rfl⟩:=a9.mp hx;exact (h y i).2.2.2.2.2) (a9.mpr ⟨z,f,by omega⟩)
 refine⟨⟨λe=>(by rw[e] at f;cases f),by lia,m,λx hx=>?_,?_,hF.mp g.ap,?_⟩,⟨λx hx=>je (m x hx),λx hx=>?_,by lia⟩,λx hx=>?_⟩
 ·have:=h x hx;omega
 ·refine (p.map (·.1)).nodup_iff.mpr ?_
  rw[u];exact j2 (XF _ _) nw
 ·have:=g.ar;rw[hA] at this;unfold tJ;simp only[A,B,show (λx:eT×Hs.Ob=>x.2.dY)=(Hs.Ob.dY ∘ λx:eT×Hs.Ob=>x.2) from rfl,this]
  unfold Hs.Ob.dY;simp only[j,k,UZ,UZ]
 ·have:=h x hx;omega
 ·have:=h x hx
  lia
noncomputable def vd (fn:dM):Prop:=∀(p:Int×Int) (a:Int),1<=a->a<=10->∃r b,fn (pD p) [.int a]=some (r,b)/\∃(rs:Fl) (c:Int×Int),r=.own (aH rs)/\b=pD c/\bC rs/\zI rs/\Sm rs
def yC {i:Nat}{Z Z1:DS}{xs:List Dat}{n:Int}{d:Dat}{fa:AF}(h:(Z[i]?).bind DV.ownOf=some (false,.lst xs)) (a:fa Z=some ([.int n,d],Z1)) (b:(Z1[i]?).bind DV.ownOf=some (false,.lst xs)) (c:0<=n/\n<=xs.length/\xs.length < bg):gG i qE fa Z=some (.aK,Z1.set i (.own (.lst (xs.take n.toNat++d::xs.drop n.toNat)))):=by
 unfold gG;simp only[h];simp only[a5];rw[a];dsimp only[a5];rw[b];dsimp only[a5];show (if 0<=n/\n<=xs.length/\xs.length < bg then _ else none).map _=_
 rw[if_pos c];rfl
def G3 (x) (o):lC (.tup [.str x]) (cL o)=some (.dat (aG (x,o))):=by
 show (if [Dat.str x].length + [Dat.int o.l,.int o.b,.int o.r,.int o.t].length<=bg then some (Res.dat (.tup ([Dat.str x]++[Dat.int o.l,.int o.b,.int o.r,.int o.t]))) else none)=_
 rw[if_pos (by show 5<=bg;unfold bg;decide)]
 rfl
def MZ (T:Txt mg) (v:j7 mg) (V:bw P w K mg base "_law_take" 1 (cV K 0 fA))(W:bw P w K mg base "_law_names" 2 (cV K 0 g))(X:xG g)(Y:bw P w K mg base "_law_cut_up" 3 (cV K 0 h))(s3:xM h)(F:L2.bA K "_law_rows" "_law_rows" sS f z):∃fn,aV P w K mg base aX 4 f z ["_law_purse_here","_law_most"] (cV K 0 fn)/\vd fn:=by
 refine' mP (j:=0) F CH (n:=1) rfl ?B ?C
 case B =>
  intro cdv A outer s H E c;have nd:=CH.nd;cases T;cases v;have lk:kP "_law_purse_here":=⟨trivial⟩
  walk_at "ds"
 case C =>
  clear T v F V W Y;rintro p b G i;refine' m8 rfl ?w
  case w =>
   show WS _ [.io (pD p),.dat (.int b),.no,.no,.no] _;obtain⟨r,D,e1,a,l,rfl,rfl,hw,I,J⟩:=X p;refine' aj (aJ (Z2:=[.io (pD l),.dat (.int b),.own (.lst (a.map .str)),.no,.no]) (cZ rfl ao rfl e1 rfl) rfl (aq ?_));refine' aj (aJ (Z2:=[.io (pD l),.dat (.int b),.own (.lst (a.map .str)),.own (aH []),.no]) (dz ao (qh _)) rfl (aq ?_));obtain⟨r,D,e2,os,q2,o0,rfl,rfl,h8,b0,l0,d0,B⟩:=s3 l b G i;refine' aj (d7 (λk Z=>∃(q:Int×Int) (rs:Fl) (e:DV.Slot),Fr e/\Z=[.io (pD q),.dat (.int b),.own (.lst (a.map .str)),.own (aH rs),e]/\rs.length=k/\rs.Perm ((a.zip os).take k)) (cF (ak (cZ rfl (ag rfl ao) rfl e2 rfl) rfl)) ?h0 ?st ?L)
   case h0=>exact⟨_,[],.no,.inl rfl,rfl,rfl,List.Perm.refl _⟩
   case st =>
    rintro k y M Z ⟨q,rs,e,N,rfl,O,c⟩;rw[cn] at M;obtain⟨o,Q,rfl⟩:=g0.mp M;have hkl:k < os.length:=(bc.mp Q).1;have R:dH (aH rs)=some rs.length:=by simp[aH,dH]
    refine⟨[.io (pD q),.dat (.int b),.own (.lst (a.map .str)),.own (aH rs),.dat (cL o)],by rcases N with rfl | ⟨d,rfl⟩ <;> rfl,?_⟩
    have t:=e8 q ((rs.length:Int) + 1) (Bx.lg (by omega) (by lia))
    obtain⟨u1,u2⟩:=eX q (m:=(rs.length:Int) + 1) (by omega)
    generalize aT q ((rs.length:Int) + 1)=n at t u1 u2;generalize cE q ((rs.length:Int) + 1)=S at t;obtain⟨x,ex⟩:∃x,a[rs.length]? = some x:=⟨_,cm (by lia)⟩
    have ix:dv (.lst (a.map .str)) (.int (rs.length:Int))=some (.str x):=by
     simp only[mG];exact mM (by rw[cn,ex];rfl)
    have hl8:rs.length < 8:=by lia
    refine' aj (oM (yC (xs:=rs.map aG) (n:=n) (d:=aG (x,o)) (Z1:=[.io (pD S),.dat (.int b),.own (.lst (a.map .str)),.own (aH rs),.dat (cL o)]) ?D (ag (ak (cZ rfl (ag (ak (au (dZ rfl R) rfl rfl) rfl) ao) rfl t rfl) rfl) (ag (ak (au (il (ag (eO rfl (dZ rfl R) rfl ix) ao) ?c2) rfl (G3 x o)) rfl) ao)) ?c3 ?c4) (aq (bf (o6 ?c5))))
    case D=>exact rfl
    case c2=>show 1<=bg;unfold bg;decide
    case c3=>exact rfl
    case c4=>rw[a8];unfold bg;omega
    case c5 =>
     refine⟨S,rs.take n.toNat++(x,o)::rs.drop n.toNat,.dat (cL o),.inr ⟨_,rfl⟩,?_,?_,?_⟩
     ·unfold aH;simp only[f',gi,Hz,H9];rfl
     ·simp only[eJ,fk,gg,j1];omega
     ·have u:(a.zip os)[k]? = some (x,o):=by
       rw[Ts];exact⟨O ▸ ex,Q⟩
      obtain⟨U,u⟩:=bc.mp u;simp only[List.take_succ_eq_append_getElem U,u];refine List.perm_middle.trans ?_;rw[qt];exact (V' (x,o) rs).symm.trans (c.append_right _)
   case L =>
    rintro Z ⟨q,rs,e,N,rfl,O,c⟩;refine' aq (aj (bZ rfl (gH ?_)));rw[a8,TJ (by rw[UU];lia)] at c
    exact⟨_,_,_,rfl,rfl,rs,q,rfl,rfl,En I J hw h8 b0 l0 d0 B c⟩
theorem ET {rs:Fl}:gu (rs.map aG) (rs.map aG)=true:=by
 induction rs with
 | nil=>rfl
 | cons x rs a =>
  show (cw (aG x) (aG x) && gu (rs.map aG) (rs.map aG))=true;rw[a,UC];show cw (.tup _) (.tup _)=true;rw[nX];show (cw (.str x.1) (.str x.1) && (cw (.int x.2.l) (.int x.2.l) && (cw (.int x.2.b) (.int x.2.b) && (cw (.int x.2.r) (.int x.2.r) && (cw (.int x.2.t) (.int x.2.t) && true)))))=true;simp[ig,kh]
def ED (h:∀x∈rs,aZ x.1):bB (aH rs)=true:=qH (by
 rw[j4];intro d hd;obtain⟨p,a,rfl⟩:=a9.mp hd;show [Dat.str p.1,.int p.2.l,.int p.2.b,.int p.2.r,.int p.2.t].all eh=true;simp[eh,(h p a).ok])
def Hx (c:bX a b=true)(d:bX b a=true):a=b:=qq (UI (Ti.mp (jW.mp c)) (Ti.mp (jW.mp d)))
def JQ (a):bX a a=true:=jW.mpr (Vb _)
def GC (l):∃A B,l=A++B/\aU l=B++A:=by
 unfold aU;split
 ·rename_i i _;exact⟨l.take i,l.drop i,(qt i l).symm,rfl⟩
 ·exact⟨[],l,rfl,by simp⟩
noncomputable def pF (k:Nat) (a b:eT×Hs.Ob):Bool:=decide (dI k a.2<=dI k b.2)
def Gp (rs) (x):cQ rs x 4=dS rs x 0++dS rs x 1++dS rs x 2++dS rs x 3:=by
 rw[lR,lR,lR,lR];rfl
def bC.Ow (F:bC rs)(c:y∈rs)(d:z∈rs)(e:y.1=z.1):y=z:=by
 have:rs.Pairwise λa b=>a.1≠b.1:=hF.mp F.nd
 rcases jI this c d with h | h | h
 ·exact h
 ·exact absurd e h
 ·exact absurd e.symm h
def xX (k):dq (aN k)=false:=by
 unfold aN;split
 ·decide +kernel
 ·split
  ·decide +kernel
  ·split <;> decide +kernel
def Ja (c:j < 4)(d:k < 4)(h:aN j=aN k):j=k:=by
 have key:∀a b:Fin 4,aN a.val=aN b.val->a=b:=by decide +kernel
 exact congrArg Fin.val (key ⟨j,c⟩ ⟨k,d⟩ h)
noncomputable def mT (rs:Fl):List (eT×List eT):=(rs.map λy=>(y.1,aU (cQ rs y.2 4))).mergeSort λa b=>bX a.1 b.1
def Nf (rs):pU rs=(mT rs).map pairD:=by
 unfold pU mT gy;rw[ri (r:=λa b:eT×List eT=>bX a.1 b.1) (s:=dw) (f:=pairD) (λa _ b _=>rfl),hA]
 rfl
variable {rs:Fl}
def GU (T:Txt mg)(F:L2.bA K "_law_begun" "_law_begun" uF f g):∃fn,aV P w K mg base aX 1 f g ["_law_names_here"] (aF K fn)/\r8 fn:=by
 refine' ck F BS (n:=1) rfl ?C ?B
 case C =>
  intro cdv A outer s H E hr;have nd:=BS.nd;cases T
  walk_at "ds"
 case B =>
  clear T F;intro a b hz c;refine' cx rfl ?w
  case w =>
   show WS _ [.dat (.lst (a.map .str)),.no] _;have i:=mS c;obtain⟨j,d⟩:∃j,a.findIdx? (λx=>decide (x=eA a))=some j:=by
    cases e:a.findIdx? (λx=>decide (x=eA a)) with
    | some j=>exact⟨j,rfl⟩
    | none =>
     rw[Uv] at e;have:=e _ (nj b);simp at this
   have hj:j < a.length:=(k9.mp d).1;have h:=c _ (nj b);have em:lJ [.lst (a.map .str)]=some (.dat (.str (eA a))):=by
    have:=vW (λx:eT=>x) b
    rw[s9] at this;exact this
   refine' aj (aJ (v_res (oD rfl (ag (ak (aP (ag rfl ao) em) rfl) ao) i (fK h.ok) ((oV c h).trans d))) rfl (aq ?_));show WS _ [.dat (.lst (a.map .str)),.dat (.int (j:Int))] _;have k:eV (.lst (a.map .str)) (some (j:Int)) none=some (.own (.lst ((a.drop j).map .str))):=by
    show some (Res.own (.lst (DV.cutD (a.map Dat.str) (some (j:Int)) none)))=_;rw[pj,H9]
   have l:eV (.lst (a.map .str)) none (some (j:Int))=some (.own (.lst ((a.take j).map .str))):=by
    show some (Res.own (.lst (DV.cutD (a.map Dat.str) none (some (j:Int)))))=_;rw[mm,Hz]
   refine' aj (bZ (au (ak (ji rfl rfl k) rfl) (ak (iD rfl rfl l) rfl) (dW ?D)) ?G)
   case D =>
    rw[a8,a8,j1,gg];unfold bg;omega
   case G =>
    unfold aU;rw[d,f'];exact⟨_,rfl⟩
def FZ (h:(Z[i]?).bind DV.ownOf=some (false,.lst xs))(a:fa Z=some ([d],Z1))(b:(Z1[i]?).bind DV.ownOf=some (false,.lst xs))(c:xs.length < bg):gG i nr fa Z=some (.aK,Z1.set i (.own (.lst (xs++[d])))):=by
 unfold gG;rw[h];show (fa Z).bind _=_;rw[a];show ((Z1[i]?).bind DV.ownOf).bind _=_;rw[b];show (if xs.length < bg then some (Dat.aK,Dat.lst (xs++[d])) else none).map _=_
 rw[if_pos c];rfl
end
end bW
section
open PySem PySem.Spec PyProof.Rows L2 DV
namespace bW
noncomputable def cK (rs:Fl):Hs.Ob:=⟨0,0,cT rs,cO rs⟩
noncomputable def allR (rs:Fl):Fl:=rs++jg rs
def AX (rs):jg rs=[(aN 0,Tl.wall (cK rs) 0),(aN 1,Tl.wall (cK rs) 1),(aN 2,Tl.wall (cK rs) 2),(aN 3,Tl.wall (cK rs) 3)]:=rfl
def qM (rs):(allR rs).map (·.2)=rs.map (·.2)++Tl.walls (cK rs):=by
 unfold allR;rw[f',AX];rfl
def xN (F:bC rs):(cK rs).ok:=⟨F.pos.1,F.pos.2⟩
def CA (a:k < 4):Tl.Up (Tl.aa k x) (Tl.aa k y) ↔ df k x y=true:=by
 have a:k=0\/k=1\/k=2\/k=3:=by lia
 rcases a with rfl | rfl | rfl | rfl <;> simp[Tl.Up,Tl.aa,Tl.ae,df,ki] <;> lia
theorem Ax (p):∀(rs:Fl),(rs.filter λy=>decide (p∈cf.ik y.2)).length<=(cI rs).count p
 | []=>eS _
 | y::rs=>by
  have ih:=Ax p rs;have e:cI (y::rs)=cf.ik y.2++cI rs:=rfl;simp only[e,List.count_append]
  by_cases h:p∈cf.ik y.2
  ·rw[List.filter_cons_of_pos (by simpa using h),fk]
   have:=Xk.mpr h
   lia
  ·rw[List.filter_cons_of_neg (by simpa using h)]
   lia
def bC.NR (F:bC rs)(j:kj rs=false):Tl.az (cK rs) (rs.map (·.2)) where
 aE:=λo l=>by
  obtain⟨x,hx,rfl⟩:=a9.mp l;have a:=F.row x hx;have b:=F.fx hx;exact⟨a.1,a.2.1,b.1,a.2.2.1,a.2.2.2,b.2⟩
 ap:=λa s b u=>by
  obtain⟨x,hx,rfl⟩:=a9.mp s;obtain⟨y,c,rfl⟩:=a9.mp u
  rcases jI F.ap hx c with e | e | e
  ·exact .inl (by rw[e])
  ·exact .inr e
  ·exact .inr e.symm
 hit:=λp q v w A B=>by
  obtain⟨y,c,h⟩:=F.hit v w A B;exact⟨y.2,a9.mpr ⟨y,c,rfl⟩,h⟩
 four:=λx hx n C m k z D h=>by
  obtain⟨x,d,rfl⟩:=a9.mp hx;obtain⟨n,f,rfl⟩:=a9.mp C;obtain⟨m,g,rfl⟩:=a9.mp k;obtain⟨z,i,rfl⟩:=a9.mp D;have rx:=F.row x d;have rn:=F.row n f;have rm:=F.row m g;have rz:=F.row z i;unfold kj at j;rw[decide_eq_false_iff_not] at j;obtain⟨E,G,H,I,J,K⟩:=h;have key:=Ax (x.2.r,x.2.t) rs;have L:[x,n,m,z].length<=(rs.filter λy=>decide ((x.2.r,x.2.t)∈cf.ik y.2)).length:=by
   refine Zw ?_ ?_
   ·have n1:x≠n:=λe=>by subst e;lia
    have n2:x≠m:=λe=>by subst e;omega
    have n3:x≠z:=λe=>by subst e;omega
    have M:n≠m:=λe=>by subst e;omega
    have N:n≠z:=λe=>by subst e;omega
    have O:m≠z:=λe=>by subst e;lia
    simp[n1,n2,n3,M,N,O]
   ·intro y c;rw[ft,decide_eq_true_eq];simp only[cR,fm,or_false] at c
    rcases c with rfl | rfl | rfl | rfl
    ·exact⟨d,by simp[cf.ik]⟩
    ·exact⟨f,by simp[cf.ik,E,G]⟩
    ·exact⟨g,by simp[cf.ik,H,I]⟩
    ·exact⟨i,by simp[cf.ik,J,K]⟩
  simp only[fk,wm] at L;exact j ⟨(x.2.r,x.2.t),Xk.mp (by omega),by omega⟩
def bC.Am (F:bC rs):((allR rs).map (·.2)).Nodup:=by
 rw[qM,ia];have hp:=F.pos;refine⟨?_,?_,?_⟩
 ·refine hF.mpr (F.ap.imp_of_mem λ{x y} hx hy h e=>?_)
  have a:=F.row x hx;unfold Hs.Apart at h;rw[<- e] at h;omega
 ·have i:∀{j k:Nat},j < 4->k < 4->j≠k->Tl.wall (cK rs) j≠Tl.wall (cK rs) k:=λf g c e=>c (Tl.jH (xN F) f g e)
  have e:Tl.walls (cK rs)=[Tl.wall (cK rs) 0,Tl.wall (cK rs) 1,Tl.wall (cK rs) 2,Tl.wall (cK rs) 3]:=rfl;rw[e];simp[i (show 0 < 4 by decide) (show 1 < 4 by decide) (by decide),i (show 0 < 4 by decide) (show 2 < 4 by decide) (by decide),i (show 0 < 4 by decide) (show 3 < 4 by decide) (by decide),i (show 1 < 4 by decide) (show 2 < 4 by decide) (by decide),i (show 1 < 4 by decide) (show 3 < 4 by decide) (by decide),i (show 2 < 4 by decide) (show 3 < 4 by decide) (by decide)]
 ·intro a m b d e;subst e;obtain⟨x,hx,rfl⟩:=a9.mp m;have r:=F.row x hx;have b:=F.fx hx;simp only[Tl.walls,cR,fm,or_false] at d
  rcases d with h | h | h | h <;> (have n:=congrArg Hs.Ob.l h;have o:=congrArg Hs.Ob.b h;have p:=congrArg Hs.Ob.r h;have q:=congrArg Hs.Ob.t h;dsimp only[Tl.wN,Tl.wE,Tl.wS,Tl.wW,cK] at n o p q;omega)
def jU:y∈allR rs ↔ y∈rs\/∃k,k < 4/\y=(aN k,Tl.wall (cK rs) k):=by
 unfold allR;rw[ee,AX];refine or_congr Iff.rfl ?_;constructor
 ·intro h;simp only[cR,fm,or_false] at h
  rcases h with h | h | h | h
  ·exact⟨0,by decide,h⟩
  ·exact⟨1,by decide,h⟩
  ·exact⟨2,by decide,h⟩
  ·exact⟨3,by decide,h⟩
 ·rintro⟨k,a,rfl⟩;have a:k=0\/k=1\/k=2\/k=3:=by lia
  rcases a with rfl | rfl | rfl | rfl <;> simp
def bC.NW (F:bC rs)(a:y∈allR rs)(b:z∈allR rs)(e:y.1=z.1):y=z:=by
 rcases jU.mp a with a | ⟨j,c,rfl⟩ <;> rcases jU.mp b with b | ⟨k,d,rfl⟩
 ·exact F.Ow a b e
 ·have:=F.nm y a;rw[e,xX] at this;cases this
 ·have:=F.nm z b;rw[<- e,xX] at this;cases this
 ·have:=Ja c d e;subst this;rfl
noncomputable def lG (rs:Fl) (o:Hs.Ob):Str:=(((allR rs).find? λy=>decide (y.2=o)).map (·.1)).getD ""
theorem bC.kM (F:bC rs)(b:y∈allR rs):lG rs y.2=y.1:=by
 unfold lG;cases e:(allR rs).find? λz=>decide (z.2=y.2) with
 | none =>
  have:=Vr.mp e y b;simp at this
 | some z =>
  have c:=Uu e;have a:=VV e;have a:z.2=y.2:=by simpa using a
  have nd:=F.Am;have:z=y:=by
   rcases jI (hF.mp nd) c b with q | q | q
   ·exact q
   ·exact absurd a q
   ·exact absurd a.symm q
  rw[this];rfl
def bC.vZ (F:bC rs)(b:y∈allR rs):y.2.ok:=by
 have hp:=F.pos
 rcases jU.mp b with h | ⟨j,a,rfl⟩
 ·exact F.ok h
 ·have a:j=0\/j=1\/j=2\/j=3:=by lia
  rcases a with rfl | rfl | rfl | rfl
  ·exact⟨show (0:Int) < cT rs by omega,show cO rs < cO rs + 1 by lia⟩
  ·exact⟨show cT rs < cT rs + 1 by lia,show (0:Int) < cO rs by omega⟩
  ·exact⟨show (0:Int) < cT rs by omega,show (-1:Int) < 0 by omega⟩
  ·exact⟨show (-1:Int) < 0 by omega,show (0:Int) < cO rs by omega⟩
def bC.AL (F:bC rs)(a:y∈rs)(c:k < 4):Hs.Apart y.2 (Tl.wall (cK rs) k):=by
 have r:=F.row y a;have b:=F.fx a;have c:k=0\/k=1\/k=2\/k=3:=by lia
 rcases c with rfl | rfl | rfl | rfl <;> simp[Hs.Apart,Tl.wall,Tl.wN,Tl.wE,Tl.wS,Tl.wW,cK] <;> omega
def bC.IJ (F:bC rs)(c:y∈allR rs)(d:z∈allR rs):y=z\/Hs.Apart y.2 z.2:=by
 have hp:=F.pos
 rcases jU.mp c with h | ⟨j,a,rfl⟩ <;> rcases jU.mp d with h' | ⟨k,b,rfl⟩
 ·rcases jI F.ap h h' with e | e | e
  ·exact .inl e
  ·exact .inr e
  ·exact .inr e.symm
 ·exact .inr (F.AL h b)
 ·exact .inr (F.AL h' a).symm
 ·have b:k=0\/k=1\/k=2\/k=3:=by lia
  have a:j=0\/j=1\/j=2\/j=3:=by lia
  rcases a with rfl | rfl | rfl | rfl <;> rcases b with rfl | rfl | rfl | rfl <;> first | exact .inl rfl | (right;simp[Hs.Apart,Tl.wall,Tl.wN,Tl.wE,Tl.wS,Tl.wW,cK];done) | (right;simp[Hs.Apart,Tl.wall,Tl.wN,Tl.wE,Tl.wS,Tl.wW,cK];omega)
def bC.qK (F:bC rs)(hx:x∈rs)(d:k < 4):dS rs x.2 k=(Tl.bI ((allR rs).map (·.2)) x.2 k).map (lG rs):=by
 have j:=MU F hx d;have n:(allR rs).filter (λy=>decide (lT x.2 y.2=Option.some k))=(allR rs).filter λy=>decide (Tl.Up (Tl.aa k x.2) (Tl.aa k y.2)):=VC λy c=>decide_eq_decide.mpr ((vV (F.ok hx) (F.vZ c) d).trans (CA d).symm)
 have g:∀y∈(allR rs).filter (λy=>decide (Tl.Up (Tl.aa k x.2) (Tl.aa k y.2))),y∈allR rs/\df k x.2 y.2=true:=λy c=>by
  obtain⟨o,p⟩:=ft.mp c;exact⟨o,(CA d).mp (of_decide_eq_true p)⟩
 unfold hU fR at j;change ((((allR rs).filter λy=>decide (lT x.2 y.2=Option.some k)).map λy=>(dI k y.2,y.1)).mergeSort λa b=>decide (a.1<=b.1)).map (·.2)=_ at j
 rw[n] at j;rw[<- j];unfold Tl.bI;have q:((allR rs).map (·.2)).filter (λy=>decide (Tl.Up (Tl.aa k x.2) (Tl.aa k y)))=((allR rs).filter λy=>decide (Tl.Up (Tl.aa k x.2) (Tl.aa k y.2))).map (·.2):=X0
 rw[q];generalize hL:(allR rs).filter (λy=>decide (Tl.Up (Tl.aa k x.2) (Tl.aa k y.2)))=L at g
 have m:∀a∈allR rs,∀b∈allR rs,df k x.2 a.2=true->df k x.2 b.2=true->(dI k a.2<=dI k b.2 ↔ (Tl.aa k a.2).l<=(Tl.aa k b.2).l):=λa h b i qa qb=>by
  rcases F.IJ h i with e | e
  ·subst e;exact⟨λ_=>UB _,λ_=>UB _⟩
  ·have o1:=F.vZ h;have o2:=F.vZ i;unfold Hs.Apart at e;unfold Hs.Ob.ok at o1 o2;have d:k=0\/k=1\/k=2\/k=3:=by lia
   rcases d with rfl | rfl | rfl | rfl <;> simp[dI,df,ki,Tl.aa,Tl.ae] at * <;> omega
 have t:(L.map λy=>(dI k y.2,y.1)).mergeSort (λa b=>decide (a.1<=b.1))=(L.mergeSort (pF k)).map λy=>(dI k y.2,y.1):=(ri (r:=pF k) (s:=λa b:Int×Str=>decide (a.1<=b.1)) (f:=λy:Str×Hs.Ob=>(dI k y.2,y.1)) λa _ b _=>rfl).symm
 have u:(L.map (·.2)).mergeSort (λa b=>decide ((Tl.aa k a).l<=(Tl.aa k b).l))=(L.mergeSort (pF k)).map (·.2):=(ri (r:=pF k) λa h b i=>by
  unfold pF;exact decide_eq_decide.mpr (m a (g a h).1 b (g b i).1 (g a h).2 (g b i).2)).symm
 simp only[t,u,hA,hA];refine Tt λy c=>?_
 have c:=(g y (Xi.mp c)).1;exact (F.kM c).symm
def bC.Gu (F:bC rs)(hx:x∈rs):cQ rs x.2 4=(Tl.bj (rs.map (·.2)++Tl.walls (cK rs)) x.2).map (lG rs):=by
 rw[Gp,F.qK hx (by decide),F.qK hx (by decide),F.qK hx (by decide),F.qK hx (by decide),qM]
 unfold Tl.bj;simp only[f',f',f']
noncomputable def cX (web:List (Str×List Str)) (n:Str):List Str:=((web.find? λp=>decide (p.1=n)).map (·.2)).getD []
noncomputable def dR (a b:Str):Bool:=!bX b a
def wR:Tl.Order dR where
 eG:=λa=>by unfold dR;rw[JQ];rfl
 tr:=λa b c e d=>by
  unfold dR at *;simp only[nq] at *;cases h:bX c a with
  | false=>rfl
  | true =>
   have t:=uE b a;rw[e,Yo] at t;rw[sP _ _ _ h t] at d;cases d
 cP:=λa b h=>by
  unfold dR;cases e:bX b a with
  | false=>exact .inl rfl
  | true =>
   cases d:bX a b with
   | false=>exact .inr rfl
   | true=>exact absurd (Hx d e) h
theorem dO (nd:(web.map (·.1)).Nodup)(a:p∈web):cX web p.1=p.2:=by
 unfold cX;cases e:web.find? λz=>decide (z.1=p.1) with
 | none =>
  have:=Vr.mp e p a;simp at this
 | some z =>
  have c:=Uu e;have b:z.1=p.1:=by simpa using VV e
  have:z=p:=by
   rcases jI (hF.mp nd) c a with q | q | q
   ·exact q
   ·exact absurd b q
   ·exact absurd b.symm q
  rw[this];rfl
def xi (l):Tl.fZ l (aU l):=by
 obtain⟨A,B,a,b⟩:=GC l;exact⟨A,B,a,b⟩
noncomputable def da (web:List (Str×List Str)):Prop:=Tl.iE (web.map (·.1)) aN (cX web) dR
theorem bC.uU (F:bC rs)(m:kj rs=false)(f:web.Perm (rs.map λy=>(y.1,aU (cQ rs y.2 4)))):da web:=by
 have T:=F.NR m;have nd:=F.Am;rw[qM] at nd;have c:∀{x:Str×Hs.Ob},x∈rs->x∈allR rs:=λh=>jU.mpr (.inl h)
 have o:(rs.map (·.2)).map (lG rs)=rs.map (·.1):=by
  rw[hA];exact Tt λx hx=>F.kM (c hx)
 have q:(λk=>lG rs (Tl.wall (cK rs) k))=aN:=by
  funext k
  by_cases r:k < 4
  ·exact F.kM (y:=(aN k,Tl.wall (cK rs) k)) (jU.mpr (.inr ⟨k,r,rfl⟩))
  ·have s:Tl.wall (cK rs) k=Tl.wall (cK rs) 3:=by
    unfold Tl.wall;rw[if_neg (by omega),if_neg (by omega),if_neg (by omega)]
    rfl
   have t:aN k=aN 3:=by
    unfold aN;rw[if_neg (by omega),if_neg (by omega),if_neg (by omega)]
    rfl
   simp only[s,t];exact F.kM (y:=(aN 3,Tl.wall (cK rs) 3)) (jU.mpr (.inr ⟨3,by decide,rfl⟩))
 have g:∀{a:Hs.Ob},a∈rs.map (·.2)++Tl.walls (cK rs)->∃y∈allR rs,y.2=a:=λ{a} h=>by
  rw[<- qM] at h;exact a9.mp h
 have i:=T.uU (ν:=lG rs) (lt:=dR) (ring':=cX (rs.map λy=>(y.1,cQ rs y.2 4))) (xN F) nd (λa d b u e=>by
  obtain⟨y,j,rfl⟩:=g d;obtain⟨z,l,rfl⟩:=g u;simp only[F.kM j,F.kM l] at e;rw[F.NW j l e]) (λa d=>by
  obtain⟨x,hx,rfl⟩:=a9.mp d;simp only[F.kM (c hx),<- F.Gu hx];exact dO (p:=(x.1,cQ rs x.2 4)) (by rw[hA];exact F.nd) (a9.mpr ⟨x,hx,rfl⟩)) wR
 rw[o,q] at i;have pn:(web.map (·.1)).Perm (rs.map (·.1)):=by
  have:=f.map (·.1);rw[hA] at this;exact this
 refine i.turn pn λn v=>?_
 obtain⟨x,hx,rfl⟩:=a9.mp v;simp only[dO (web:=rs.map λy=>(y.1,cQ rs y.2 4)) (p:=(x.1,cQ rs x.2 4)) (by rw[hA];exact F.nd) (a9.mpr ⟨x,hx,rfl⟩),dO (p:=(x.1,aU (cQ rs x.2 4))) (pn.nodup_iff.mpr F.nd) (f.mem_iff.mpr (a9.mpr ⟨x,hx,rfl⟩))]
 exact xi _
end bW
end
local macro_rules | `(tactic| walk_at "du")=>`(tactic| first|(refine' Jr ?a;(case a=>walk_at "da"))|(refine' OS ?a ?b ?c ?d;(case a=>rfl);(case b=>assumption);(case c=>rfl);(case d=>walk_at "da"))|fail)
local macro_rules | `(tactic| walk_at "dd0")=>`(tactic| (refine' K8 ?t ?a ?b ?c ?d ?e ?f ?g;(case t=>assumption);(case a=>rfl);(case b=>decide);(case c=>rfl);(case d=>rfl);(case e=>rfl);(case f=>rfl);(case g=>walk_at "da")))
local macro_rules | `(tactic| walk_at "de0")=>`(tactic| first|(refine' Fy ?u ?a ?b ?c ?d ?m ?e;(case u=>exact ky (by assumption));(case a=>rfl);(case b=>walk_at "vis");(case c=>decide);(case d=>decide);(case m=>rfl);(case e=>walk_at "du"))|(refine' KJ ?z ?a ?b ?c ?d;(case z=>rfl);(case a=>rfl);(case b=>assumption);(case c=>rfl);(case d=>walk_at "da"))|(refine' Ot ?a ?b ?c ?d;(case a=>rfl);(case b=>assumption);(case c=>rfl);(case d=>walk_at "da"))|(refine' II ?x ?y ?a ?b ?c ?d;(case x=>rfl);(case y=>rfl);(case a=>rfl);(case b=>assumption);(case c=>rfl);(case d=>walk_at "da"))|(refine' Jm ?a ?b ?c ?d;(case a=>rfl);(case b=>assumption);(case c=>rfl);(case d=>walk_at "da"))|fail)
local macro_rules | `(tactic| walk_at "dt")=>`(tactic| first|(refine' M6 ?u ?a ?b ?c ?d ?m ?e;(case u=>exact ky (by assumption));(case a=>rfl);(case b=>walk_at "vis");(case c=>decide);(case d=>decide);(case m=>rfl);(case e=>walk_at "du"))|(refine' Ey ?u ?a ?b ?c ?d ?m ?e;(case u=>exact ky (by assumption));(case a=>rfl);(case b=>walk_at "vis");(case c=>decide);(case d=>decide);(case m=>rfl);(case e=>walk_at "du"))|(refine' G' ?a ?b;(case a=>walk_at "dd");(case b=>walk_at "dd"))|fail)
local macro_rules | `(tactic| walk_at "dit")=>`(tactic| first|(refine' Ov ?a ?b ?c ?d ?e;(case a=>rfl);(case b=>assumption);(case c=>rfl);(case d=>rfl);(case e=>walk_at "da"))|(refine' E1 ?x ?a ?b ?c ?d;(case x=>assumption);(case a=>rfl);(case b=>walk_at "vis");(case c=>decide);(case d=>decide))|(refine' JG ?t ?a ?b ?c ?d;(case t=>assumption);(case a=>rfl);(case b=>walk_at "vis");(case c=>decide);(case d=>decide))|(refine' Fg ?x ?h;(case x=>assumption);(case h=>walk_at "de0"))|fail)
local macro_rules | `(tactic| walk_at "dst")=>`(tactic| first|(refine' EE ?t ?n ?a ?b ?c ?d ?e;(case t=>assumption);(case n=>walk_at "nd");(case a=>rfl);(case b=>walk_at "loc");(case c=>walk_at "fn");(case d=>rfl);(case e=>walk_at "de"))|(refine' Nr ?t ?n ?a ?b ?c ?d;(case t=>assumption);(case n=>walk_at "nd");(case a=>rfl);(case b=>walk_at "loc");(case c=>walk_at "fn");(case d=>rfl))|(refine' F2 ?a ?b ?u ?c ?d ?s ?e ?k;(case a=>rfl);(case b=>walk_at "vis");(case u=>exact ky (by assumption));(case c=>decide);(case d=>decide);(case s=>rfl);(case e=>walk_at "dd");(case k=>walk_at "du"))|(refine' Mx ?p ?a ?b;(case p=>exact WQ);(case a=>walk_at "dt");(case b=>walk_at "ds"))|exact Dm|fail)
namespace bW
section
variable {P:hJ}{w:kq}{K:gj}{mg:eT->Option b8}{base:m3}
noncomputable abbrev CV:List Str:=["north","east","south","west"]
noncomputable abbrev nG:Dat:=.tup [.str "north",.str "east",.str "south",.str "west"]
noncomputable def sU (fn:aQ):Prop:=∀k,k < 4->fn [.str (aN k)]=some (.dat (.str (aN ((k + 1) % 4))))
def Ll (T:Txt mg) (w1:fg K mg "WALLS" nG) (w2:tM K mg "WALLS" CV)(F:L2.bA K "follower" "follower" vD f a):∃fn,aV P w K mg base aX 1 f a ["wall"] (aF K fn)/\sU fn:=by
 refine' ck F zX (n:=1) rfl ?C ?B
 case C =>
  intro cdv A outer s H E hr;have nd:=zX.nd;cases T
  walk_at "ds"
 case B =>
  clear T F;intro k hk;have:k=0\/k=1\/k=2\/k=3:=by lia
  rcases this with rfl | rfl | rfl | rfl <;> rfl
def uG (a:List eT) (k:Nat):eV (.lst (a.map .str)) (some (k:Int)) none=some (.own (.lst ((a.drop k).map .str))):=by
 show some (Res.own (.lst (DV.cutD (a.map Dat.str) (some (k:Int)) none)))=_;rw[pj,H9]
def qC (a:List eT) (k:Nat):eV (.lst (a.map .str)) none (some (k:Int))=some (.own (.lst ((a.take k).map .str))):=by
 show some (Res.own (.lst (DV.cutD (a.map Dat.str) none (some (k:Int)))))=_;rw[mm,Hz]
def dD (h:c Z=some (b,Z1))(a:b=false)(n:WS g Z1 Q):WS (lU (jv c s xc) g) Z Q :=
 aj (eL h (λz=>by rw[a] at z;cases z) λ_=>bf (aq n))
noncomputable def BN (fn:aQ):Prop:=∀p:eT×List eT,dq p.1=true->aZ p.1->fn [pairD p]=some (.dat (.bl true))
def DU (T:Txt mg)(g:bw P w K mg base "is_name" 1 (aF K c))(i:AE c)(F:L2.bA K "is_pair" "is_pair" wZ f d):∃fn,aV P w K mg base aX 2 f d ["thing"] (aF K fn)/\BN fn:=by
 refine' ck F A3 (n:=1) rfl ?C ?B
 case C =>
  intro cdv A outer s H E hr;have nd:=A3.nd;cases T
  walk_at "ds"
 case B =>
  clear T F g;intro p h j;have e:=i p.1 j;rw[h] at e;refine' cx rfl ?w
  case w =>
   show WS _ [.dat (.tup [.str p.1,.lst (p.2.map .str)])] _;refine' dD ?a rfl ?b
   case a=>walk_at "ev"
   case b=>exact aj (bZ (v_res (tU (ak (aP (ag (eO rfl rfl rfl rfl) ao) e) rfl) (rT (eO rfl rfl rfl rfl) rfl))) ⟨_,rfl⟩)
noncomputable def Ig (room:eT) (ring names:List eT):Prop:=3<=ring.length/\ring.length < 100/\(∀n∈ring,n∈names/\n≠room)/\ring.Nodup/\aZ room/\(∀n∈ring,aZ n)/\∀n∈names,aZ n
noncomputable def yR (fn:aQ):Prop:=∀(room:eT) (ring names:List eT),Ig room ring names->fn [.str room,.lst (ring.map .str),.lst (names.map .str)]=some (.dat (.bl true))
def md {a:List eT}(c:∀x∈a,aZ x) {m:eT}(d:aZ m) (b:Bool):gC b (.str m) (.lst (a.map .str))=some (.dat (.bl (if b then !decide (m∈a) else decide (m∈a)))):=by
 rw[Bs d.ok (λy e=>(c y e).ok)]
 have:(a.any λy=>decide (y=m))=decide (m∈a):=by
  rw[sb];simp
 rw[this]
def CG (hx:aZ x)(a:aZ y):dP true (.str x) (.str y)=some (.dat (.bl (!decide (x=y)))):=by rw[mK (fK hx.ok) (fK a.ok),ig]
def nz {a:Type}{enc:a->Dat}{caps:List (Option Nat)}{fi:IF}{g:GF}{fe:DF}{xs:List a}{Z Z1 Z2:DS}(put:a->DS) (b:fi Z=some (xs.map enc,Z1)) (c:ba none caps Z1=Z2) (d:xs.length<=bg)
  (e:∀x∈xs,∀Z,(Z=bV caps Z2\/∃y,Z=put y)->g (enc x) Z=some (put x)) (f:∀x∈xs,fe (put x)=some (.bl true,put x)) (h:∀x∈xs,noOwn (put x)=true) :
  cJ nh (dA (fM (dN caps none fi g (λZ=>some (true,Z)) fe)) iK) Z=some (.dat (.bl true),Z2):=by
 refine aP (ag (ak (fY put (λ_=>.bl true) b c d e f h) rfl) ao) ?_
 have:=My (λ_:a=>true) xs
 rw[show xs.all (λ_=>true)=true from by simp] at this
 exact this
def MQ (T:Txt mg) (w3:fg K mg "FEWEST_NEIGHBOURS" (.int 3)) (hs:mg "set"=none)(F:L2.bA K "is_ring" "is_ring" wY f d):∃fn,aV P w K mg base aX 1 f d ["room","ring","names"] (aF K fn)/\yR fn:=by
 refine' ck F BX (n:=3) rfl ?C ?B
 case C =>
  intro cdv A outer s H E hr;have nd:=BX.nd;cases T
  walk_at "ds"
 case B =>
  clear T F;rintro room ring names ⟨h1,h2,e,j,k,g,l⟩;refine' cx rfl ?w
  case w =>
   show WS _ [.dat (.str room),.dat (.lst (ring.map .str)),.dat (.lst (names.map .str))] _;have sz:ring.length<=sizeLine:=by unfold bg;lia
   refine' dD ?a ?D ?L
   case a=>walk_at "ev"
   case D=>simp;omega
   refine' dD (lj (fV (ak (nz (enc:=Dat.str) (xs:=ring) (λn=>[.no,.dat (.str n),.dat (.lst (names.map .str)),.dat (.str room)]) (cF rfl) rfl sz ?G ?I ?J) rfl) rfl)) rfl ?b
   case G=>intro y hy Z hd;rcases hd with rfl | ⟨z,rfl⟩ <;> rfl
   case I =>
    intro n c;have h:=md l (g n c) false;have i:=CG (g n c) k;rw[decide_eq_true (e n c).1] at h;rw[decide_eq_false (e n c).2] at i;exact tU (ak (au rfl rfl h) rfl) (ak (au rfl rfl i) rfl)
   case J=>intro n c;rfl
   case b =>
    refine aj (bZ (au (xS (cs:=ring) (λx=>x) rfl (by omega)) (dZ rfl rfl) yj) (kO ?_))
    rw[s9,(zO ring).mpr j,a8];exact decide_eq_true rfl
noncomputable def cy:List Str:=[aN 0,aN 1,aN 2,aN 3]
structure cj (web:List (eT×List eT)):Prop where
 bL:1<=web.length/\web.length<=8
 nm:∀p∈web,dq p.1=true
 nd:(web.map (·.1)).Nodup
 rg:∀p∈web,3<=p.2.length/\p.2.Nodup/\∀n∈p.2,(n∈web.map (·.1)\/n∈cy)/\n≠p.1
noncomputable def zG (fn:aQ):Prop:=∀web:List (eT×List eT),cj web->fn [.lst (web.map pairD)]=some (.dat (.bl true))
def vE:∀n∈cy,aZ n:=by
 intro n a;simp only[cy,cR,fm,or_false] at a
 rcases a with rfl | rfl | rfl | rfl <;> exact⟨by decide +kernel,by decide +kernel⟩
def cj.txt (h:cj web)(a:n∈web.map (·.1)\/n∈cy):aZ n:=by
 rcases a with a | a
 ·obtain⟨p,b,rfl⟩:=a9.mp a;exact je (h.nm p b)
 ·exact vE n a
theorem vX [DecidableEq b]:∀{l m:List b},l.Nodup->(∀x∈l,x∈m)->l.length<=m.length
 | [],_,_,_=>qh _
 | a::l,m,c,h=>by
  have d:=vX (l:=l) (m:=m.erase a) (ib.mp c).2 λx hx=>(List.mem_erase_of_ne λz=>(ib.mp c).1 (by rw[<- z];exact hx)).mpr (h x (ew _ hx))
  rw[List.length_erase_of_mem (h a eH)] at d;have:=Wu (h a eH);simp only[fk]
  lia
def cj.len (h:cj web)(b:p∈web):p.2.length<=12:=by
 have a:=(h.rg p b);have:p.2.length<=(web.map (·.1)++cy).length:=by
  exact vX a.2.1 λn c=>ee.mpr (a.2.2 n c).1
 rw[eJ,a8] at this;have:=h.bL;have:cy.length=4:=rfl
 lia
def FL (T:Txt mg) (w1:fg K mg "WALLS" nG) (w3:fg K mg "MOST_ROOMS" (.int 8)) (hs:mg "set"=none)(k:bw P w K mg base "is_pair" 2 (aF K e))(l:BN e)(m:bw P w K mg base "is_ring" 1 (aF K g))(o:yR g)(F:L2.bA K "has_form" "has_form" uX f i):∃fn,aV P w K mg base aX 3 f i ["web"] (aF K fn)/\zG fn:=by
 refine' ck F zt (n:=1) rfl ?C ?B
 case C =>
  intro cdv A outer s H E hr;have nd:=zt.nd;cases T
  walk_at "ds"
 case B =>
  clear T F k m;intro web h;refine' cx rfl ?w
  case w =>
   show WS _ [.dat (.lst (web.map pairD)),.no,.no] _;have hl:=h.bL;have sz:web.length<=sizeLine:=by unfold bg;lia
   have ln:dH (.lst (web.map pairD))=some web.length:=by simp[dH]
   refine' dD ?a ?D ?a3
   case a=>walk_at "ev"
   case D=>simp;lia
   refine' dD (lj (fV (ak (nz (enc:=pairD) (xs:=web) (λp=>[.no,.dat (pairD p)]) (cF rfl) rfl sz ?G ?I ?J) rfl) rfl)) rfl ?b
   case G=>intro y j Z hd;rcases hd with rfl | ⟨z,rfl⟩ <;> rfl
   case I =>
    intro p c;have:=l p (h.nm p c) (je (h.nm p c))
    walk_at "ev"
   case J=>intro n d;rfl
   case b =>
    show WS _ [.dat (.lst (web.map pairD)),.no,.no] _;refine' aj (aJ (Z2:=[.dat (.lst (web.map pairD)),.own (.lst ((web.map (·.1)).map .str)),.no]) (fY (enc:=pairD) (xs:=web) (λp=>[.no,.dat (.str p.1),.dat (.lst (p.2.map .str))]) (λp=>.str p.1) (cF rfl) rfl sz ?L ?M ?N) ?O (aq ?Q))
    case L=>intro y j Z hd;rcases hd with rfl | ⟨z,rfl⟩ <;> rfl
    case M=>intro p c;rfl
    case N=>intro p c;rfl
    case O=>rw[hA];rfl
    case Q =>
     refine' dD (bq (au (xS (cs:=web.map (·.1)) (λx=>x) rfl ?R) (dZ rfl rfl) (ne_int _ _))) ?S ?U
     case R=>rw[a8];omega
     case S =>
      simp only[s9,(zO _).mpr h.nd,a8];simp
     case U =>
      refine' aj (aJ (Z2:=[.dat (.lst (web.map pairD)),.dat (.lst ((web.map (·.1)).map .str)),.own (.lst ((web.map (·.1)++cy).map .str))]) (au rfl (ak (aP (ag rfl ao) rfl) rfl) (dW ?V)) ?W (aq ?X))
      case V=>simp[bg];lia
      case W=>rw[f'];rfl
      case X =>
       refine' aj (bZ (nz (enc:=pairD) (xs:=web) (λp=>[.no,.dat (.str p.1),.dat (.lst (p.2.map .str)),.dat (.lst ((web.map (·.1)++cy).map .str))]) (cF rfl) rfl sz ?Y ?f5 ?f6) ⟨_,rfl⟩)
       case Y=>intro y j Z hd;rcases hd with rfl | ⟨z,rfl⟩ <;> rfl
       case f6=>intro p c;rfl
       case f5 =>
        intro p c;have r:=h.rg p c;have:=o p.1 p.2 (web.map (·.1)++cy) ⟨r.1,by have:=h.len c;lia,λn d=>⟨ee.mpr (r.2.2 n d).1,(r.2.2 n d).2⟩,r.2.1,je (h.nm p c),λn d=>h.txt (r.2.2 n d).1,λn d=>h.txt (ee.mp d)⟩
        walk_at "ev"
noncomputable abbrev bz:=List (eT×List eT)
noncomputable def dm (web:bz):List (eT×Dat):=web.map λp=>(p.1,.lst (p.2.map .str))
noncomputable def br (web:bz):Dat:=.dE (dm web)
def IW {c:Type}{l:List (eT×c)}(nd:(l.map (·.1)).Nodup) {p q:eT×c}(f:p∈l) (g:q∈l) (e:p.1=q.1):p=q:=by
 obtain⟨i,d⟩:=U2.mp f;obtain⟨j,b⟩:=U2.mp g;cases Tl.jC nd (a:=p.1) (by rw[cn,d];rfl) (j:=j) (by simp only[cn,b,e];rfl)
 rw[d] at b;exact Option.some.inj b
def lY (nd:(web.map (·.1)).Nodup)(a:p∈web):dc (dm web) p.1=some (.lst (p.2.map .str)):=by
 have e:(web.find? λq=>decide (q.1=p.1))=some p:=by
  cases e:web.find? λq=>decide (q.1=p.1) with
  | none=>exact absurd (Vr.mp e p a) (by simp)
  | some q =>
   have b:=Uu e;have c:=VV e;rw[IW nd b a (by simpa using c)]
 dsimp only[dc,dm];rw[List.find?_map];show ((web.find? λq=>decide (q.1=p.1)).map _).map _=_
 rw[e];rfl
def M1 (web) (n):(dc (dm web) n).isSome=decide (n∈web.map (·.1)):=by
 dsimp only[dc,dm];rw[sb];simp
def su (web) (n) (a):gC a (.str n) (br web)=some (.dat (.bl (if a then !decide (n∈web.map (·.1)) else decide (n∈web.map (·.1))))):=by
 rw[<- M1];rfl
def gJ {a:Type}{l:List a}{k:Nat}{x:a}(h:l[k]? = some x):l.take (k + 1)=l.take k++[x]:=by rw[X7,h];rfl
noncomputable def zy (fn:aQ):Prop:=∀web:bz,cj web->(∀p∈web,∀q∈web,q.1∈p.2->p.1∈q.2)->fn [br web]=some (.dat (.bl true))
def Hm (T:Txt mg)(F:L2.bA K "ties_are_shared" "ties_are_shared" tP f m):∃fn,aV P w K mg base aX 1 f m ["rings"] (aF K fn)/\zy fn:=by
 refine' ck F BI (n:=1) rfl ?D ?B
 case D =>
  intro cdv A outer s H E hr;have nd:=BI.nd;cases T;have fz:jZ "rings":=⟨trivial⟩
  walk_at "ds"
 case B =>
  clear T F;intro web h u;refine' cx rfl ?w
  case w =>
   show WS _ [.dat (br web),.no,.no] _;refine' aj (d7 (λ_ Z=>∃e a,Fr e/\Fr a/\Z=[.dat (br web),e,a]) rfl ⟨_,_,.inl rfl,.inl rfl,rfl⟩ ?st ?C)
   case C=>rintro _ ⟨e,a,o,b,rfl⟩;exact aq (aj (bZ rfl ⟨_,rfl⟩))
   case st =>
    rintro k x hx _ ⟨e,a,o,b,rfl⟩;unfold dm at hx;rw[hA,cn] at hx;obtain⟨p,ep,rfl⟩:=g0.mp hx;have g:=eK ep;refine⟨[.dat (br web),.dat (.str p.1),a],by rcases o with rfl | ⟨d,rfl⟩ <;> rfl,?_⟩
    refine aj (d7 (λ_ Z=>∃a,Fr a/\Z=[.dat (br web),.dat (.str p.1),a]) (cF (lF rfl rfl (lY h.nd g))) ⟨_,b,rfl⟩ ?_ ?_)
    ·rintro j y r _ ⟨a,b,rfl⟩;rw[cn] at r;obtain⟨n,v,rfl⟩:=g0.mp r;have z:=eK v;refine⟨[.dat (br web),.dat (.str p.1),.dat (.str n)],by rcases b with rfl | ⟨d,rfl⟩ <;> rfl,?_⟩
     by_cases i:n∈web.map (·.1)
     ·obtain⟨q,l,rfl⟩:=a9.mp i;have c:=su web q.1 false;rw[decide_eq_true i] at c;have t:=md (λx hx=>h.txt ((h.rg q l).2.2 x hx).1) (h.txt (.inl (a9.mpr ⟨p,g,rfl⟩))) true
      rw[decide_eq_true (u p g q l z)] at t;exact dD (v_and (bq (au rfl rfl c)) (ui rfl (bq (au rfl (lF rfl rfl (lY h.nd l)) t)))) rfl (bf ⟨_,.inr ⟨_,rfl⟩,rfl⟩)
     ·have c:=su web n false;rw[decide_eq_false i] at c;exact dD (v_and (bq (au rfl rfl c)) (sZ rfl rfl)) rfl (bf ⟨_,.inr ⟨_,rfl⟩,rfl⟩)
    ·rintro _ ⟨a,b,rfl⟩;exact aq (bf ⟨_,_,.inr ⟨_,rfl⟩,b,rfl⟩)
noncomputable def dj (l:List (List eT)) (k:List eT):List (List eT):=if k∈l then l else l++[k]
noncomputable def dh (a:List (List eT)):List (List eT):=a.foldl dj []
noncomputable def TT (l:List (List eT)):fD:=l.map (·,.bl true)
def Gn (l) (k):nQ (TT l) k (.bl true)=TT (dj l k):=by
 have e:(eQ (TT l) k).isSome=decide (k∈l):=by
  dsimp only[eQ,TT];rw[sb];simp
 unfold nQ dj;rw[e]
 by_cases h:k∈l
 ·rw[if_pos (by simpa using h),if_pos h]
  unfold TT;rw[hA];refine Tt λx _=>?_
  show (if x=k then (x,Dat.bl true) else (x,Dat.bl true))=_
  split <;> rfl
 ·rw[if_neg (by simpa using h),if_neg h]
  unfold TT;simp only[f'];rfl
def ye (l) (k):dh (l++[k])=dj (dh l) k:=by
 unfold dh;rw[XG];rfl
def yt (l):(dh l).length<=l.length:=by
 have:∀(l a:List (List eT)),(l.foldl dj a).length<=a.length + l.length:=by
  intro l;induction l with
  | nil=>intro a;exact eS _
  | cons k l b =>
   intro a;have h:=b (dj a k);have:(dj a k).length<=a.length + 1:=by unfold dj;split <;> simp
   simp only[fk];show (l.foldl dj (dj a k)).length<=_
   lia
 have:=this l [];simp only[wm,t9] at this;exact this
def Md (l):(∀k,k∈dh l ↔ k∈l)/\(dh l).Nodup:=by
 have:∀(l b:List (List eT)),b.Nodup->(∀k,k∈l.foldl dj b ↔ k∈b\/k∈l)/\(l.foldl dj b).Nodup:=by
  intro l;induction l with
  | nil=>intro b h;exact⟨λk=>by simp,h⟩
  | cons a l g =>
   intro b h;have i:(dj b a).Nodup:=by
    unfold dj;split
    ·exact h
    ·rename_i f;rw[ia];exact⟨h,by simp,λx hx y j e=>f (by rw[iR.mp j] at e;rw[<- e];exact hx)⟩
   obtain⟨c,d⟩:=g _ i;refine⟨λk=>?_,d⟩
   show k∈l.foldl dj (dj b a) ↔ _;rw[c k];unfold dj;split
   ·rename_i f
    grind
   ·grind
 obtain⟨c,d⟩:=this l [] za;exact⟨λk=>by rw[show dh l=l.foldl dj [] from rfl,c k];simp,d⟩
def KD:∀{l:List (List eT)},l.Nodup->dh l=l:=by
 have:∀(l b:List (List eT)),(b++l).Nodup->l.foldl dj b=b++l:=by
  intro l;induction l with
  | nil=>intro b h;simp
  | cons a l c =>
   intro b h;have d:a∉b:=λz=>(ia.mp h).2.2 a z a eH rfl
   show l.foldl dj (dj b a)=_;rw[show dj b a=b++[a] from if_neg d,c _ (by rw[mu];exact h),mu]
   rfl
 intro l h;exact this l [] h
def AW (h:f Z=some (.bl true,Z))(d:a Z=some (k,Z))(b:(Z[i]?).bind DV.ownOf=some (false,.aY c (TT l)))(h3:l.length < 1000):pd i a f Z=some (.next (Z.set i (.own (.aY false (TT (dj l k)))))):=by
 unfold pd;simp only[h];show ((Z[i]?).bind DV.ownOf).bind _=_;simp only[b];simp only[a5];rw[d];show ((Z[i]?).bind DV.ownOf).bind _=_;rw[b];show (if (TT l).length < bg then _ else none)=_
 rw[if_pos (by unfold TT bg;rw[a8];lia),Gn]
 rfl
noncomputable def bQ (web:bz):List (List eT):=web.flatMap λp=>(Tl.eZ p.2).map λq=>[p.1,q.1,q.2]
noncomputable def qV (fn:aQ):Prop:=∀web:bz,cj web->da web->fn [br web]=some (.own (.aY false (TT (bQ web))))
theorem wu (h:∀p∈web,p.2.length<=12):(bQ web).length<=12 * web.length:=by
 unfold bQ;induction web with
 | nil=>simp
 | cons p web a =>
  have h1:=a λq b=>h q (ew _ b)
  have h2:=h p eH;simp only[VB,eJ,a8,Tl.yW,fk]
  lia
def oY (nd:(web.map (·.1)).Nodup):bQ web=(Tl.corners (web.map (·.1)) (cX web)).map λc=>[c.1,c.2.1,c.2.2]:=by
 unfold bQ Tl.corners;rw[List.map_flatMap,List.flatMap_map];simp only[XO,XO];refine congrArg _ (Tt λp a=>?_)
 simp only[dO nd a,hA];rfl
def GI (h:cj web)(hw:da web):(bQ web).Nodup:=by
 rw[oY h.nd];refine hF.mpr (List.Pairwise.imp (λ{a b} n e=>n ?_) (Tl.jk hw.C))
 obtain⟨a1,a2,a3⟩:=a;obtain⟨b1,b2,b3⟩:=b;simp only[WW,and_true] at e;simp only[e.1,e.2.1,e.2.2]
def GH (h:Z[i]? = some (.dat (.lst (a.map .str))))(hz:a.length<=100):sx (dA (dF i) (dA (fM (cg lC (fM (jr (dF i) (kg (fC (.int 1))) ni)) (fM (jr (dF i) ni (kg (fC (.int 1))))))) iK)) Z=some ((Tl.eZ a).map λq=>.tup [.str q.1,.str q.2],Z):=by
 have b:dF i Z=some (.lst (a.map .str),Z):=by unfold dF;rw[h]
 have c:=uG a 1;have d:=qC a 1;unfold sx;rw[ag b (ag (ak (au (ak (ji b rfl c) rfl) (ak (iD b rfl d) rfl) (dW (by unfold bg;simp;omega))) rfl) ao)]
 show some (nB (a.map .str) ((a.drop 1).map .str++(a.take 1).map .str),Z)=_;unfold nB Tl.eZ;rw[<- f',List.zip_map,hA];rfl
def HP (T:Txt mg) (r:mg "zip"=none)(F:L2.bA K "corners_of" "corners_of" tF f t):∃fn,aV P w K mg base aX 1 f t ["rings"] (aF K fn)/\qV fn:=by
 refine' ck F BU (n:=1) rfl ?J ?B
 case J =>
  intro cdv A outer s H E hr;have nd:=BU.nd;cases T;have fz:jZ "rings":=⟨trivial⟩;have tp:la "corners":=⟨trivial⟩
  walk_at "ds"
 case B =>
  clear T F r;intro web h hw;have u:∀p∈web,p.2.length<=12:=λp m=>h.len m
  have bL:=h.bL;refine' cx rfl ?w
  case w =>
   show WS _ [.dat (br web),.no,.no,.no,.no,.no] _;refine' aj (aJ (Z2:=[.dat (br web),.own (.aY false (TT (dh []))),.no,.no,.no,.no]) rfl rfl (aq ?_));refine' aj (d7 (λk Z=>∃o l c e,Fr o/\Fr l/\Fr c/\Fr e/\Z=[.dat (br web),.own (.aY false (TT (dh (bQ (web.take k))))),o,l,c,e]) rfl ⟨_,_,_,_,.inl rfl,.inl rfl,.inl rfl,.inl rfl,rfl⟩ ?st ?C)
   case C =>
    rintro _ ⟨o,l,c,e,v,z,g,i,rfl⟩;simp only[a8,show (dm web).length=web.length from a8 ..,q0,KD (GI h hw)]
    exact aq (aj (bZ rfl ⟨_,rfl⟩))
   case st =>
    rintro k x hx _ ⟨o,l,c,e,v,z,g,i,rfl⟩;unfold dm at hx;rw[hA,cn] at hx;obtain⟨p,ep,rfl⟩:=g0.mp hx;have m:=eK ep;have hlp:=u p m;have hk:=(bc.mp ep).1;have r:=wu (web:=web.take k) λq M=>u q (WT M)
    rw[gg] at r;refine⟨[.dat (br web),.own (.aY false (TT (dh (bQ (web.take k))))),.dat (.str p.1),l,c,e],by rcases v with rfl | ⟨d,rfl⟩ <;> rfl,?_⟩
    refine' aj (aJ (Z2:=[.dat (br web),.own (.aY false (TT (dh (bQ (web.take k))))),.dat (.str p.1),.dat (.lst (p.2.map .str)),c,e]) (v_res (lF rfl rfl (lY h.nd m))) ?a (aq ?b))
    case a=>rcases z with rfl | ⟨d,rfl⟩ <;> rfl
    case b =>
     refine aj (d7 (λj Z=>∃c e,Fr c/\Fr e/\Z=[.dat (br web),.own (.aY false (TT (dh (bQ (web.take k)++((Tl.eZ p.2).take j).map λq=>[p.1,q.1,q.2])))),.dat (.str p.1),.dat (.lst (p.2.map .str)),c,e]) (GH rfl (by lia)) ⟨_,_,g,i,by simp only[X6,TK,xr]⟩ ?_ ?_)
     ·rintro j y D _ ⟨c,e,g,i,rfl⟩;rw[cn] at D;obtain⟨q,eq,rfl⟩:=g0.mp D;generalize G:dh (bQ (web.take k)++((Tl.eZ p.2).take j).map λq=>[p.1,q.1,q.2])=L
      have I:L.length < 1000:=by
       rw[<- G];refine Uq (yt _) ?_;simp only[eJ,a8,gg,Tl.yW]
       lia
      refine⟨[.dat (br web),.own (.aY false (TT L)),.dat (.str p.1),.dat (.lst (p.2.map .str)),.dat (.str q.1),.dat (.str q.2)],by rcases g with rfl | ⟨d,rfl⟩ <;> rcases i with rfl | ⟨d,rfl⟩ <;> rfl,?_⟩
      refine aj ⟨_,AW (k:=[p.1,q.1,q.2]) rfl rfl rfl I,aq (bf ⟨.dat (.str q.1),.dat (.str q.2),.inr ⟨_,rfl⟩,.inr ⟨_,rfl⟩,?_⟩)⟩;rw[gJ eq,f',<- mu];show _=[_,Slot.own (.aY false (TT (dh (_++[_])))),_,_,_,_];rw[ye,G];rfl
     ·rintro _ ⟨c,e,g,i,rfl⟩;refine aq (bf ⟨.dat (.str p.1),.dat (.lst (p.2.map .str)),c,e,.inr ⟨_,rfl⟩,.inr ⟨_,rfl⟩,g,i,?_⟩);rw[gJ ep,show bQ (web.take k++[p])=bQ (web.take k)++(Tl.eZ p.2).map λq=>[p.1,q.1,q.2] from by unfold bQ;simp,a8,q0]
def Fz (l) (k):(eQ (TT l) k).isSome=decide (k∈l):=by
 unfold eQ TT;rw[sb];simp
def tZ (h:b Z=some (k,Z))(d:(Z[i]?).bind ff=some (.aY c (TT l))):lP a i b Z=some (.dat (.bl (if a then !decide (k∈l) else decide (k∈l))),Z):=by
 unfold lP;rw[h];show ((Z[i]?).bind ff).bind _=_;rw[d,<- Fz];rfl
def mY (n):dr n=true ↔ n∈cy:=by
 simp[dr,cy,aN,or_assoc]
def eP (h:k < 4):aN k∈cy:=by
 have:k=0\/k=1\/k=2\/k=3:=by lia
 rcases this with rfl | rfl | rfl | rfl <;> simp[cy]
def tO (h:n∈cy):∃k,k < 4/\n=aN k:=by
 simp only[cy,cR,fm,or_false] at h
 rcases h with rfl | rfl | rfl | rfl
 ·exact⟨0,by decide,rfl⟩
 ·exact⟨1,by decide,rfl⟩
 ·exact⟨2,by decide,rfl⟩
 ·exact⟨3,by decide,rfl⟩
noncomputable def zF (fn:aQ):Prop:=∀(cs:List (List eT)) (x n m:eT),aZ x->aZ n->aZ m->(∀k,k < 4->n=aN k->m∈cy->m=aN ((k + 1) % 4))->(n∉cy->[n,m,x]∈cs)->(m∉cy->[m,x,n]∈cs)->fn [.tup [.str x,.str n,.str m],.aY true (TT cs)]=some (.dat (.bl true))
def NT (T:Txt mg) (w1:fg K mg "WALLS" nG)(p:bw P w K mg base "follower" 1 (aF K c))(q:sU c)(F:L2.bA K "corner_closes" "corner_closes" vN f g):∃fn,aV P w K mg base aX 2 f g ["corner","corners"] (aF K fn)/\zF fn:=by
 refine' ck F x8 (n:=2) rfl ?C ?B
 case C =>
  intro cdv A outer s H E hr;have nd:=x8.nd;cases T
  walk_at "ds"
 case B =>
  clear T F p;intro cs x n m tx i d r t u;refine' cx rfl ?w
  case w =>
   show WS _ [.dat (.tup [.str x,.str n,.str m]),.dat (.aY true (TT cs)),.no,.no,.no] _;refine' aj (aJ rfl rfl (aq (aj (aJ rfl rfl (aq (aj (aJ rfl rfl (aq ?_))))))));show WS _ [.dat (.tup [.str x,.str n,.str m]),.dat (.aY true (TT cs)),.dat (.str x),.dat (.str n),.dat (.str m)] _;refine aj (eL (hV (bq (au rfl rfl (me i.ok false))) (bq (au rfl rfl (me d.ok false)))) (λh=>?_) λh=>bf (aq ?_))
   ·simp only[dV,mA,if_false,mY] at h;obtain⟨k,j,rfl⟩:=tO h.1;have e:=q k j;refine aj (bZ (au rfl (ak (aP (ag rfl ao) e) rfl) (o5 d.ok (vE _ (eP (Vw _ (by decide)))).ok)) (kO ?_))
    exact decide_eq_true (r k j rfl h.2)
   ·refine' dD (hV (bq (au rfl rfl (me i.ok true))) (bq (tZ (k:=[n,m,x]) rfl rfl))) ?a ?b
    case a =>
     simp only[if_true]
     by_cases l:n∈cy
     ·rw[(mY n).mpr l];rfl
     ·rw[decide_eq_true (t l)];simp
    case b =>
     refine aj (bZ (v_res (Cc (ak (au rfl rfl (me d.ok false)) rfl) (ak (tZ (k:=[m,x,n]) rfl rfl) rfl))) (kO ?_))
     by_cases o:m∈cy
     ·rw[(mY m).mpr o];rfl
     ·rw[decide_eq_true (u o)];simp
noncomputable def zB (fn:aQ):Prop:=∀web:bz,cj web->da web->fn [br web]=some (.dat (.bl true))
def pP (h:cj web):[x,n,m]∈bQ web ↔ x∈web.map (·.1)/\Tl.aD (cX web x) n m:=by
 rw[oY h.nd,<- Tl.d8,a9];constructor
 ·rintro⟨⟨a,b,c⟩,d,e⟩;simp only[WW,and_true] at e;simp only[<- e.1,<- e.2.1,<- e.2.2];exact d
 ·exact λd=>⟨_,d,rfl⟩
def Df (T:Txt mg)(v:bw P w K mg base "corners_of" 1 (aF K q))(D:qV q)(G:bw P w K mg base "corner_closes" 2 (aF K r))(I:zF r)(F:L2.bA K "corners_close" "corners_close" tH f u):∃fn,aV P w K mg base aX 3 f u ["rings"] (aF K fn)/\zB fn:=by
 refine' ck F CM (n:=1) rfl ?J ?B
 case J =>
  intro cdv A outer s H E hr;have nd:=CM.nd;cases T;have tp:la "corners":=⟨trivial⟩
  walk_at "ds"
 case B =>
  clear T F v G;intro web h hw;have L:=D web h hw;have hl:=wu (web:=web) λp M=>h.len M
  have bL:=h.bL;refine' cx rfl ?w
  case w =>
   show WS _ [.dat (br web),.no] _;refine' aj (aJ (Z2:=[.dat (br web),.own (.aY false (TT (bQ web)))]) (aP (ag rfl ao) L) rfl (aq ?_));refine' aj (bZ (nz (enc:=λk:List eT=>.tup (k.map .str)) (xs:=bQ web) (λk=>[.no,.dat (.tup (k.map .str)),.dat (.aY true (TT (bQ web)))]) (Z1:=[.dat (br web),.dat (.aY true (TT (bQ web)))]) ?a rfl ?b ?c ?d ?e) ⟨_,rfl⟩)
   case a =>
    show some (iP (TT (bQ web)),_)=_;dsimp only[iP,TT];rw[hA];rfl
   case b=>unfold bg;lia
   case c=>intro y l Z hd;rcases hd with rfl | ⟨z,rfl⟩ <;> rfl
   case e=>intro y l;rfl
   case d =>
    intro y l;have t:=l;rw[oY h.nd] at t;obtain⟨⟨x,n,m⟩,_,rfl⟩:=a9.mp t;obtain⟨hx,g⟩:=(pP h).mp l;have tx:∀z∈cX web x,aZ z:=λz N=>h.txt (hw.C.mem x hx z N)
    have:=I (bQ web) x n m (h.txt (.inl hx)) (tx n g.mem.1) (tx m g.mem.2) (λk O Q i=>by
     obtain⟨j,R,rfl⟩:=tO i;rw[hw.ww x hx k j O R (by rw[<- Q];exact g)]) (λo=>by
     have o:=(hw.C.mem x hx n g.mem.1).resolve_right o;exact (pP h).mpr ⟨o,hw.C.fE x hx n m g o⟩) (λi=>by
     have i:=(hw.C.mem x hx m g.mem.2).resolve_right i;exact (pP h).mpr ⟨i,hw.C.fI x hx n m g i⟩)
    exact ak (aP (ag rfl (ag rfl ao)) this) rfl
def LD (nd:a.Nodup)(s:Tl.aD a p wl):∃j,a.findIdx? (λx=>decide (x=wl))=some j/\dv (.lst (a.map .str)) (.int ((j:Int) - 1))=some (.str p):=by
 obtain⟨i,b,c⟩:=s;have hi:=(bc.mp b).1;obtain⟨d,e⟩:=bc.mp c;refine⟨(i + 1) % a.length,k9.mpr ⟨d,by simpa using e,λk hk=>?_⟩,?_⟩
 ·intro z;have:=Tl.jC nd (i:=k) (bc.mpr ⟨by lia,by simpa using z⟩) c
  lia
 ·simp only[mG];unfold eN;have:fG (a.map Dat.str).length (((i + 1) % a.length:Nat) - 1:Int)=some i:=by
   rw[a8];unfold fG
   by_cases f:i + 1 < a.length
   ·rw[kx f,if_pos (by omega),if_pos (by omega)]
    congr 1
    lia
   ·have:i + 1=a.length:=by lia
    rw[this,yv,if_neg (by omega),if_pos (by omega)]
    congr 1;omega
  simp only[this,a5,cn,b];rfl
def Ge (h:c Z=some (false,Z1))(q:Q (.next Z1)):WS (fX c fb (n + 1)) Z Q:=by
 refine⟨_,?_,q⟩;show (c Z).bind _=_;rw[h];rfl
def IT (h:c Z=some (true,Z1))(a:fb Z1=some (.next Z2))(q:WS (fX c fb n) Z2 Q):WS (fX c fb (n + 1)) Z Q:=by
 obtain⟨o,e,q⟩:=q;refine⟨o,?_,q⟩;show (c Z).bind _=_;rw[h];show (fb Z1).bind _=_;rw[a];exact e
theorem Ng (D:List eT->eT->DV.Slot->DS)(stop:∀d a t,a∉rooms->c (D d a t)=some (false,D d a t))(go:∀d a p t,Fr t->a∈rooms->Tl.aD (ring a) p wl->d.length < 500->c (D d a t)=some (true,D d a t)/\∃t',Fr t'/\fb (D d a t)=some (.next (D (d++[a]) p t')))(r:Tl.Row rooms ring wl a l) :
  ∀(d:List eT) (t:DV.Slot) (n:Nat),Fr t->l.length < n->d.length + l.length < 500->(∀e t',Q (.next (D (d++l) e t')))->WS (fX c fb n) (D d a t) Q:=by
 induction r with
 | @stop b h =>
  intro d t n g f _ q;obtain⟨n,rfl⟩:∃m,n=m + 1:=⟨n - 1,by simp at f;omega⟩
  refine Ge (stop d _ t h) ?_;have:=q b t;rw[xr] at this;exact this
 | @go a p l h s _ j =>
  intro d t n g f k q;simp only[fk] at f k;obtain⟨n,rfl⟩:∃m,n=m + 1:=⟨n - 1,by omega⟩
  obtain⟨o,t',u,v⟩:=go d a p t g h s (by omega)
  refine IT o v (j _ _ _ u (by lia) (by simp only[eJ,TV];omega) λe i=>?_)
  rw[mu];exact q e i
noncomputable def yw (fn:aQ):Prop:=∀(web:bz) (wl a:eT) (l:List eT),cj web->aZ wl->Tl.Row (web.map (·.1)) (cX web) wl a l->l.length < 100->fn [br web,.str wl,.str a]=some (.own (.lst (l.map .str)))
def Jz (T:Txt mg)(F:L2.bA K "row_along" "row_along" wy f g):∃fn,aV P w K mg base aX 1 f g ["rings","wall","first"] (aF K fn)/\yw fn:=by
 refine' ck F A8 (n:=3) rfl ?B ?C
 case B =>
  intro cdv A outer s H E hr;have nd:=A8.nd;cases T;have fz:jZ "rings":=⟨trivial⟩
  walk_at "ds"
 case C =>
  clear T F;intro web wl a l h i r hl;refine' cx rfl ?w
  case w =>
   show WS _ [.dat (br web),.dat (.str wl),.dat (.str a),.no,.no,.no] _;refine' aj (aJ (dz ao (qh _)) rfl (aq (aj (aJ rfl rfl (aq ?_)))));refine' aj (Ng (rooms:=web.map (·.1)) (ring:=cX web) (wl:=wl) (λc b t=>[.dat (br web),.dat (.str wl),.dat (.str a),.own (.lst (c.map .str)),.dat (.str b),t]) ?stop ?go r [] .no qx (.inl rfl) ?n ?m ?q)
   case n=>unfold qx;omega
   case m=>simp only[wm];omega
   case q=>exact λa' t'=>aq (aj (bZ rfl ⟨_,rfl⟩))
   case stop =>
    intro c b t B;have e:=su web b false;rw[decide_eq_false B] at e;exact bq (au rfl rfl e)
   case go =>
    intro c b p t o B k ha;have e:=su web b false;rw[decide_eq_true B] at e;obtain⟨x,hx,rfl⟩:=a9.mp B;rw[dO h.nd hx] at k;have tr:∀z∈x.2,aZ z:=λz u=>h.txt ((h.rg x hx).2.2 z u).1
    obtain⟨j,v,y⟩:=LD (h.rg x hx).2.1 k;refine⟨bq (au rfl rfl e),.dat (.lst (x.2.map .str)),.inr ⟨_,rfl⟩,?_⟩;refine iY (kG (pO rfl rfl (by unfold bg;rw[a8];omega))) (iG (iY (oZ (Z2:=[.dat (br web),.dat (.str wl),.dat (.str a),.own (.lst ((c++[x.1]).map .str)),.dat (.str x.1),.dat (.lst (x.2.map .str))]) (v_res (lF rfl rfl (lY h.nd hx))) ?_) (iG (iY (oZ (v_res (eO rfl (ak (au (oD rfl (ag rfl ao) (mS tr) (fK i.ok) ((oV tr i).trans v)) rfl (jY rfl)) rfl) rfl y)) rfl) (iG rfl)))))
    rw[f']
    rcases o with rfl | ⟨d,rfl⟩ <;> rfl
def Cv {web:bz}(nd:(web.map (·.1)).Nodup) (keep:eT×List eT->Bool):((web.filter keep).map (·.1)).Nodup:=j2 (List.Sublist.map _ ma) nd
def tK (p:l.Perm a):bU l=bU a:=qQ ((gp _ _).trans p) (AI l)
def yb (h:l.length < 64):lD [.lst (l.map .str)]=some (.own (.lst ((bU l).map .str))):=by
 show (match cH (l.map .str) with
  | some a=>if a.length < 64 then some (Res.own (.lst ((bU a).map .str))) else none
  | none=>gI [.lst (l.map .str)])=_
 have:=kN (λx:eT=>x) l
 rw[s9] at this;rw[this];exact if_pos h
theorem tG:∀l:List eT,gu (l.map Dat.str) (l.map Dat.str)=true
 | []=>rfl
 | x::l=>by
  show (cw (.str x) (.str x) && gu (l.map Dat.str) (l.map Dat.str))=true;rw[tG l,ig];simp
noncomputable def Ce (fn:aQ):Prop:=∀(web:bz) (k:Nat),k < 4->cj web->da web->fn [br web,.str (aN k)]=some (.dat (.bl true))
def Jh (T:Txt mg)(G:bw P w K mg base "corners_of" 1 (aF K d))(I:qV d)(J:bw P w K mg base "follower" 1 (aF K e))(L:sU e)(M:bw P w K mg base "row_along" 1 (aF K g))(N:yw g)(F:L2.bA K "wall_has_row" "wall_has_row" vp f q):∃fn,aV P w K mg base aX 2 f q ["rings","wall"] (aF K fn)/\Ce fn:=by
 refine' ck F Ac (n:=2) rfl ?B ?C
 case B =>
  intro cdv A outer s H E hr;have nd:=Ac.nd;cases T;have fz:jZ "rings":=⟨trivial⟩
  walk_at "ds"
 case C =>
  clear T F G J M;intro web k i h hw;obtain⟨x,hx,r,l,O,t,j⟩:=hw.row k i;have bL:=h.bL;have sz:web.length<=sizeLine:=by unfold bg;lia
  have u:aZ (aN k):=vE _ (eP i);have Q:=L k i;have hll:l.length<=8:=pA (vX t λy m=>((j y).mp m).1) (by rw[a8];lia)
  have v:(dm web).map (λk=>Dat.str k.1)=web.map λp=>Dat.str p.1:=by unfold dm;rw[hA];rfl
  have R:(web.filter λp=>decide ([p.1,aN k,aN ((k + 1) % 4)]∈bQ web)).map (·.1)=[x]:=by
   refine List.perm_singleton.mp ((kH (Cv h.nd _) (by simp)).mpr λa=>?_)
   rw[a9,iR];constructor
   ·rintro⟨p,b,rfl⟩;rw[ft,decide_eq_true_eq,pP h] at b;exact (r p.1 b.2.1).mp b.2.2
   ·rintro rfl;obtain⟨p,b,rfl⟩:=a9.mp hx;exact⟨p,ft.mpr ⟨b,decide_eq_true ((pP h).mpr ⟨hx,(r _ hx).mpr rfl⟩)⟩,rfl⟩
  have c:l.Perm ((web.filter λp=>decide (aN k∈p.2)).map (·.1)):=by
   refine (kH t (Cv h.nd _)).mpr λa=>?_
   rw[j];constructor
   ·rintro⟨S,B⟩;rw[a9];obtain⟨p,b,rfl⟩:=a9.mp S;rw[dO h.nd b] at B;exact⟨p,ft.mpr ⟨b,decide_eq_true B⟩,rfl⟩
   ·intro B;obtain⟨p,b,rfl⟩:=a9.mp B;rw[ft,decide_eq_true_eq] at b;exact⟨a9.mpr ⟨p,b.1,rfl⟩,by rw[dO h.nd b.1];exact b.2⟩
  refine' cx rfl ?w
  case w =>
   show WS _ [.dat (br web),.dat (.str (aN k)),.no,.no,.no] _;refine' aj (aJ (aP (ag rfl ao) (I web h hw)) rfl (aq ?_));show WS _ [.dat (br web),.dat (.str (aN k)),.own (.aY false (TT (bQ web))),.no,.no] _;refine' aj (aJ (Z2:=[.dat (br web),.dat (.str (aN k)),.dat (.aY false (TT (bQ web))),.own (.lst ([x].map .str)),.no]) (jh (enc:=λp:eT×List eT=>.str p.1) (xs:=web) (λp=>[.no,.dat (.str p.1),.dat (.aY false (TT (bQ web))),.dat (.str (aN k))]) (λp=>decide ([p.1,aN k,aN ((k + 1) % 4)]∈bQ web)) (λp=>.str p.1) ?U rfl sz ?V ?W ?X ?Y) ?a6 (aq ?a7))
   case U=>show some ((dm web).map λk=>Dat.str k.1,_)=_;rw[v]
   case V=>intro y m Z hd;rcases hd with rfl | ⟨z,rfl⟩ <;> rfl
   case W =>
    intro p b;refine bq (tZ (k:=[p.1,aN k,aN ((k + 1) % 4)]) ?_ rfl);unfold wU;rw[ag rfl (ag rfl (ag (ak (aP (ag rfl ao) Q) rfl) ao))];rfl
   case X=>intro p b _;rfl
   case Y=>intro p b;rfl
   case a6=>rw[<- R,hA];rfl
   case a7 =>
    refine' dD (bq (au (dZ rfl rfl) rfl (ne_int _ _))) rfl ?zz
    case zz =>
     have tr:∀p∈web,∀z∈p.2,aZ z:=λp b z o=>h.txt ((h.rg p b).2.2 z o).1
     generalize hT:(web.filter λp=>decide (aN k∈p.2)).map (·.1)=td at c
     have htl:=c.length_eq;refine' aj (aJ (Z2:=[.dat (br web),.dat (.str (aN k)),.dat (.aY false (TT (bQ web))),.own (.lst ([x].map .str)),.own (.lst (td.map .str))]) (jh (enc:=λp:eT×List eT=>.str p.1) (xs:=web) (λp=>[.no,.dat (.str p.1),.dat (br web),.dat (.str (aN k))]) (λp=>decide (aN k∈p.2)) (λp=>.str p.1) ?b1 rfl sz ?b2 ?b3 ?b4 ?b5) ?b6 (aq ?b7))
     case b1=>show some ((dm web).map λk=>Dat.str k.1,_)=_;rw[v]
     case b2=>intro y m Z hd;rcases hd with rfl | ⟨z,rfl⟩ <;> rfl
     case b3=>intro p b;exact bq (au rfl (lF rfl rfl (lY h.nd b)) (md (tr p b) u false))
     case b4=>intro p b _;rfl
     case b5=>intro p b;rfl
     case b6=>rw[<- hT,hA];rfl
     case b7 =>
      have tl:∀z∈bU l,aZ z:=λz o=>h.txt (.inl ((j z).mp ((gp _ _).mem_iff.mp o)).1)
      have D:=mS tl;refine aj (bZ (au (ak (aP (ag (ak (aP (ag rfl (ag rfl (ag (eO rfl rfl rfl rfl) ao))) (N web (aN k) x l h u O (by omega))) rfl) ao) (yb (by omega))) rfl) (ak (aP (ag rfl ao) (yb (by omega))) rfl) (v_eq D (by rw[<- tK c];exact D))) (kO ?_))
      rw[<- tK c];show cw (.lst _) (.lst _)=true;rw[kZ,tG]
noncomputable def yi (fn:aQ):Prop:=∀ring names:List eT,(∀n∈ring,aZ n)->(∀n∈names,aZ n)->ring.length<=100->fn [.lst (ring.map .str),.lst (names.map .str)]=some (.dat (.bl (ring.any λy=>decide (y∈names))))
def MW (T:Txt mg) (h:mg "any"=none)(F:L2.bA K "has_one_of" "has_one_of" xh f e):∃fn,aV P w K mg base aX 1 f e ["ring","names"] (aF K fn)/\yi fn:=by
 refine' ck F CC (n:=2) rfl ?C ?B
 case C =>
  intro cdv A outer s H E hr;have nd:=CC.nd;cases T
  walk_at "ds"
 case B =>
  clear T F h;intro ring names i j hl;refine' cx rfl ?w
  case w =>
   show WS _ [.dat (.lst (ring.map .str)),.dat (.lst (names.map .str))] _;refine' aj (bZ (aP (ag (ak (fY (enc:=Dat.str) (xs:=ring) (λn=>[.no,.dat (.str n),.dat (.lst (names.map .str))]) (λn=>.bl (decide (n∈names))) (cF rfl) rfl ?a ?b ?c ?d) rfl) ao) (OA (λn=>decide (n∈names)) ring)) ⟨_,rfl⟩)
   case a=>unfold bg;lia
   case b=>intro y hy Z hd;rcases hd with rfl | ⟨z,rfl⟩ <;> rfl
   case c=>intro n g;exact ak (au rfl rfl (md j (i n g) false)) rfl
   case d=>intro n g;rfl
def D3 (n:Nat):(eY 0 (n:Int)).length=n:=by simp[eY]
noncomputable abbrev jV (web:bz):Nat->List Str:=Tl.reach (web.map (·.1)) cy (cX web)
def NV (nd:(web.map (·.1)).Nodup)(k:Nat):jV web (k + 1)=cy++(web.filter λp=>p.2.any λy=>decide (y∈jV web k)).map (·.1):=by
 show cy++(web.map (·.1)).filter _=_;rw[X0];congr 2;refine VC λp a=>?_
 show (cX web p.1).any _=_;rw[dO nd a]
theorem IX (h:n∈jV web k):n∈web.map (·.1)\/n∈cy:=by
 cases k with
 | zero=>exact .inr h
 | succ k =>
  rcases ee.mp h with h | h
  ·exact .inr h
  ·exact .inl (ft.mp h).1
noncomputable def xt (fn:aQ):Prop:=∀web:bz,cj web->da web->fn [br web]=some (.dat (.bl true))
def KP (T:Txt mg) (w1:fg K mg "WALLS" nG)(o:bw P w K mg base "has_one_of" 1 (aF K g))(q:yi g)(F:L2.bA K "all_reached" "all_reached" we f j):∃fn,aV P w K mg base aX 2 f j ["rings"] (aF K fn)/\xt fn:=by
 refine' ck F xF (n:=1) rfl ?D ?B
 case D =>
  intro cdv A outer s H E hr;have nd:=xF.nd;cases T;have fz:jZ "rings":=⟨trivial⟩
  walk_at "ds"
 case B =>
  clear T F o;intro web h hw;have bL:=h.bL;have sz:web.length<=sizeLine:=by unfold bg;lia
  have l:(dm web).map (λk=>Dat.str k.1)=web.map λp=>Dat.str p.1:=by unfold dm;rw[hA];rfl
  have t:(dm web).length=web.length:=a8 ..;have tr:∀p∈web,∀z∈p.2,aZ z:=λp a z i=>h.txt ((h.rg p a).2.2 z i).1
  have b:∀k,∀z∈jV web k,aZ z:=λk z i=>h.txt (IX i)
  refine' cx rfl ?w
  case w =>
   show WS _ [.dat (br web),.no,.no] _;refine' aj (aJ (Z2:=[.dat (br web),.own (.lst (cy.map .str)),.no]) rfl rfl (aq ?_));refine' aj (d7 (λk Z=>∃c,Fr c/\Z=[.dat (br web),.own (.lst ((jV web k).map .str)),c]) (oI (n:=(web.length:Int)) (ag (dZ rfl (congrArg some t)) ao) ?r) ⟨_,.inl rfl,rfl⟩ ?st ?C)
   case r=>lia
   case st =>
    rintro k x hx _ ⟨c,m,rfl⟩;have b:=b k;rw[NV h.nd];generalize jV web k=R at *;obtain⟨_,rfl⟩:=qU hx;refine⟨[.dat (br web),.own (.lst (R.map .str)),.dat (.int k)],by rcases m with rfl | ⟨d,rfl⟩ <;> rfl,?_⟩
    refine' aj (aJ (Z2:=[.dat (br web),.own (.lst ((cy++(web.filter λp=>p.2.any λy=>decide (y∈R)).map (·.1)).map .str)),.dat (.int k)]) (au (ak (aP (ag rfl ao) rfl) rfl) (ak (jh (enc:=λp:eT×List eT=>.str p.1) (xs:=web) (λp=>[.no,.dat (.str p.1),.dat (.lst (R.map .str)),.dat (br web)]) (λp=>p.2.any λy=>decide (y∈R)) (λp=>.str p.1) ?G rfl sz ?I ?J ?L ?M) rfl) (dW ?N)) ?O (aq (bf ⟨_,.inr ⟨_,rfl⟩,rfl⟩)))
    case G=>show some ((dm web).map λk=>Dat.str k.1,_)=_;rw[l]
    case I=>intro y u Z hd;rcases hd with rfl | ⟨z,rfl⟩ <;> rfl
    case J =>
     intro p a;have:=h.len a;exact fV (ak (aP (ag (lF rfl rfl (lY h.nd a)) (ag rfl ao)) (q p.2 R (tr p a) b (by lia))) rfl) rfl
    case L=>intro p a _;rfl
    case M=>intro p a;rfl
    case N =>
     have:=U4 (λp:eT×List eT=>p.2.any λy=>decide (y∈R)) web
     rw[a8];show 4 + _<=bg;unfold bg
     lia
    case O=>rw[f',hA];rfl
   case C =>
    rintro _ ⟨c,m,rfl⟩;rw[D3];refine' aq (aj (bZ (nz (enc:=λp:eT×List eT=>.str p.1) (xs:=web) (λp=>[.no,.dat (.str p.1),.dat (.lst ((jV web web.length).map .str))]) ?Q rfl sz ?S ?U ?V) ⟨_,rfl⟩))
    case Q=>show some ((dm web).map λk=>Dat.str k.1,_)=_;rw[l]
    case S=>intro y u Z hd;rcases hd with rfl | ⟨z,rfl⟩ <;> rfl
    case V=>intro p a;rfl
    case U =>
     intro p a;have:p.1∈jV web web.length:=by
      have:=hw.all p.1 (a9.mpr ⟨p,a,rfl⟩);rw[a8] at this;exact this
     have e:=md (b web.length) (h.txt (.inl (a9.mpr ⟨p,a,rfl⟩))) false;rw[decide_eq_true this] at e;exact ak (au rfl rfl e) rfl
noncomputable def gS (x n:eT):Bool:=dr n || dR x n
noncomputable def jD (web:bz):Nat:=Tl.aw (λp=>p.2.countP (gS p.1)) web
def Om (a b):oj (.str a) (.str b)=some (.dat (.bl (dR a b))):=by
 show some (Res.dat (.bl (decide (a.cps.toList < b.cps.toList))))=_;unfold dR bX;simp
noncomputable def yS (fn:aQ):Prop:=∀web:bz,cj web->∃r,fn [br web]=some r/\∃ds,r=.own (.lst ds)/\ds.length=jD web
def Ho (T:Txt mg) (w1:fg K mg "WALLS" nG)(F:L2.bA K "ties_of" "ties_of" uK f o):∃fn,aV P w K mg base aX 1 f o ["rings"] (aF K fn)/\yS fn:=by
 refine' ck F yI (n:=1) rfl ?C ?B
 case C =>
  intro cdv A outer s H E hr;have nd:=yI.nd;cases T;have fz:jZ "rings":=⟨trivial⟩
  walk_at "ds"
 case B =>
  clear T F;intro web h;have bL:=h.bL;have tr:∀p∈web,∀z∈p.2,aZ z:=λp e z t=>h.txt ((h.rg p e).2.2 z t).1
  have u:∀k,k<=web.length->jD (web.take k)<=12 * k:=by
   intro k;induction k with
   | zero=>intro _;exact eS _
   | succ k v =>
    intro G;obtain⟨p,ep⟩:∃p,web[k]? = some p:=⟨web[k],cm (by omega)⟩
    have h1:=v (by omega)
    have h2:=h.len (eK ep);have h3:=U5 (p:=gS p.1) (l:=p.2);unfold jD at *;simp only[gJ ep,Tl.sC];show _ + (p.2.countP (gS p.1) + 0)<=_
    lia
  refine' yA rfl ?w
  case w =>
   show WS _ [.dat (br web),.no,.no,.no] _;refine' aj (aJ (dz ao (qh _)) rfl (aq ?_));refine' aj (d7 (λk Z=>∃ds i a,Fr i/\Fr a/\ds.length=jD (web.take k)/\Z=[.dat (br web),.own (.lst ds),i,a]) rfl ⟨[],_,_,.inl rfl,.inl rfl,rfl,rfl⟩ ?st ?D)
   case D =>
    rintro _ ⟨ds,i,a,q,c,hd,rfl⟩;rw[a8,show (dm web).length=web.length from a8 ..,q0] at hd
    exact aq (aj (bZ rfl ⟨_,_,rfl,ds,rfl,hd⟩))
   case st =>
    rintro k x hx _ ⟨ds,i,a,q,c,hd,rfl⟩;unfold dm at hx;rw[hA,cn] at hx;obtain⟨p,ep,rfl⟩:=g0.mp hx;have e:=eK ep;have G:=(bc.mp ep).1;have hlp:=h.len e;have C:=u k (by lia)
    refine⟨[.dat (br web),.own (.lst ds),.dat (.str p.1),a],by rcases q with rfl | ⟨d,rfl⟩ <;> rfl,?_⟩
    refine aj (d7 (λj Z=>∃b a,Fr a/\b.length=jD (web.take k) + (p.2.take j).countP (gS p.1)/\Z=[.dat (br web),.own (.lst b),.dat (.str p.1),a]) (cF (lF rfl rfl (lY h.nd e))) ⟨ds,a,c,by rw[hd];simp,rfl⟩ ?_ ?_)
    ·rintro j y r _ ⟨b,a,c,g,rfl⟩;rw[cn] at r;obtain⟨n,m,rfl⟩:=g0.mp r;have I:=eK m;have J:=U5 (p:=gS p.1) (l:=p.2.take j);simp only[gg] at J;refine⟨[.dat (br web),.own (.lst b),.dat (.str p.1),.dat (.str n)],by rcases c with rfl | ⟨d,rfl⟩ <;> rfl,?_⟩
     refine aj (eL (ng (bq (au rfl rfl (me (tr p e n I).ok false))) (bq (au rfl rfl (Om _ _)))) (λz=>?_) λz=>bf (aq (bf ⟨b,_,.inr ⟨_,rfl⟩,?_,rfl⟩)))
     ·refine aj ⟨_,kG (pO rfl (ag (il (ag rfl (ag rfl ao)) (by simp[bg])) ao) (by unfold bg;lia)),aq (bf (aq (bf ⟨b++[.tup [.str p.1,.str n]],.dat (.str n),.inr ⟨_,rfl⟩,?_,rfl⟩)))⟩
      rw[gJ m,k5,eJ,g,WL,if_pos (show gS p.1 n=true from z)]
      simp
      lia
     ·rw[gJ m,k5,WL,if_neg (by rw[show gS p.1 n=false from z];simp)]
      exact g
    ·rintro _ ⟨b,a,c,g,rfl⟩;rw[a8,q0] at g;refine aq (bf ⟨b,.dat (.str p.1),a,.inr ⟨_,rfl⟩,c,?_,rfl⟩);simp only[g,gJ ep];unfold jD;simp only[Tl.sC];rfl
noncomputable def zu (fn:aQ):Prop:=∀web:bz,cj web->da web->fn [br web]=some (.own (.aY false (TT (dh ((bQ web).map bU)))))
def LQ (T:Txt mg)(m:bw P w K mg base "corners_of" 1 (aF K e))(o:qV e)(F:L2.bA K "threes_of" "threes_of" vn f g):∃fn,aV P w K mg base aX 2 f g ["rings"] (aF K fn)/\zu fn:=by
 refine' ck F xV (n:=1) rfl ?D ?B
 case D =>
  intro cdv A outer s H E hr;have nd:=xV.nd;cases T;have tp:la "threes":=⟨trivial⟩;have tp2:la "corners_of":=⟨trivial⟩
  walk_at "ds"
 case B =>
  clear T F m;intro web h hw;have bL:=h.bL;have hl:=wu (web:=web) λp q=>h.len q
  refine' cx rfl ?w
  case w =>
   show WS _ [.dat (br web),.no,.no] _;refine' aj (aJ (Z2:=[.dat (br web),.own (.aY false (TT (dh []))),.no]) rfl rfl (aq ?_));refine' aj (d7 (ds:=(bQ web).map λk=>.tup (k.map .str)) (Z1:=[.dat (br web),.own (.aY false (TT (dh []))),.no]) (λk Z=>∃b,Fr b/\Z=[.dat (br web),.own (.aY false (TT (dh (((bQ web).take k).map bU)))),b]) ?a ⟨_,.inl rfl,rfl⟩ ?st ?C)
   case a =>
    unfold pZ;rw[aP (ag rfl ao) (o web h hw)];show some (iP (TT (bQ web)),_)=_;dsimp only[iP,TT];rw[hA];rfl
   case C =>
    rintro _ ⟨b,i,rfl⟩;rw[a8,q0];exact aq (aj (bZ rfl ⟨_,rfl⟩))
   case st =>
    rintro k x hx _ ⟨b,i,rfl⟩;rw[cn] at hx;obtain⟨c,j,rfl⟩:=g0.mp hx;rw[gJ j,f'];show ∃Z1,_/\WS _ Z1 (p4 (λZ=>∃b,Fr b/\Z=[.dat (br web),.own (.aY false (TT (dh (((bQ web).take k).map bU++[bU c])))),b]) _)
    rw[ye];have hc3:c.length=3:=by
     have:=eK j;rw[oY h.nd] at this;obtain⟨z,_,rfl⟩:=a9.mp this;rfl
    generalize r:dh (((bQ web).take k).map bU)=L;have l:L.length < 1000:=by
     rw[<- r];refine Uq (yt _) ?_;rw[a8,gg]
     lia
    refine⟨[.dat (br web),.own (.aY false (TT L)),.dat (.tup (c.map .str))],by rcases i with rfl | ⟨d,rfl⟩ <;> rfl,?_⟩
    refine aj ⟨_,AW (k:=bU c) rfl ?_ rfl l,aq (bf ⟨.dat (.tup (c.map .str)),.inr ⟨_,rfl⟩,rfl⟩)⟩;have t:lD [.tup (c.map .str)]=some (.own (.lst ((bU c).map .str))):=by
     show (cH (c.map .str)).bind _=_;have:=kN (λx:eT=>x) c
     rw[s9] at this;rw[this];exact if_pos (by lia)
    unfold vb;rw[ag (ak (aP (ag rfl ao) t) rfl) ao];show (cH ((bU c).map .str)).map _=_;have:=kN (λx:eT=>x) (bU c)
    rw[s9] at this;rw[this];rfl
def D1 (a:ds.length=m)(h:WS s (gb n ds) λo=>∃Z,o=.next Z):gP m (gX n s) ds=some (.dat .aK):=by
 obtain⟨o,e,Z,rfl⟩:=h;unfold gP;rw[if_pos a];exact OR e
theorem ve (g:b->c)(f:c->Nat):∀l:List b,Tl.aw f (l.map g)=Tl.aw (λa=>f (g a)) l
 | []=>rfl
 | a::l=>by
  show f (g a) + Tl.aw f (l.map g)=f (g a) + _;rw[ve g f l]
def HM:bU l=bU a ↔ l.Perm a:=by
 constructor
 ·intro e;have b:=gp l bX;have c:=gp a bX;rw[show l.mergeSort bX=a.mergeSort bX from e] at b
  exact b.symm.trans c
 ·exact tK
def HN (h:cj web)(hw:da web):(dh ((bQ web).map bU)).length + web.length=jD web + 1:=by
 obtain⟨f,g⟩:=Md ((bQ web).map bU);have j:=hw.C.threes wR (key:=λc=>bU [c.1,c.2.1,c.2.2]) (λc _ c' _=>HM) g (λk=>by
  rw[f,oY h.nd,hA,a9];rfl)
 have m:=hw.wt;rw[<- j,a8,ve,ve] at m;have e3:Tl.aw (λp:eT×List eT=>(cX web p.1).countP λy=>!Tl.ah (web.map (·.1)) y) web + Tl.aw (λp:eT×List eT=>(cX web p.1).countP λy=>Tl.ah (web.map (·.1)) y && dR p.1 y) web=jD web:=by
  unfold jD;rw[<- Tl.fU];refine Tl.cC λp n=>?_
  rw[dO h.nd n];have o:∀y∈p.2,(y∈web.map (·.1)\/y∈cy):=λy a=>((h.rg p n).2.2 y a).1
  have hd:=λy a=>hw.C.cz y a
  generalize p.2=l at *;clear j m f g;induction l with
  | nil=>rfl
  | cons y l q =>
   have i:=q (λz r=>o z (ew _ r))
   simp only[hY,hY,hY];have a:=o y eH
   by_cases b:y∈web.map (·.1)
   ·have d:Tl.ah (web.map (·.1)) y=true:=decide_eq_true b
    have e:dr y=false:=by
     rw[<- Bool.not_eq_true,mY];exact hd y b
    rw[show gS p.1 y=dR p.1 y from by unfold gS;rw[e];rfl,d,<- i]
    simp only[Bool.not_true,Bool.true_and,mA,if_false]
    lia
   ·have d:Tl.ah (web.map (·.1)) y=false:=decide_eq_false b
    have e:dr y=true:=(mY y).mpr (a.resolve_left b);rw[show gS p.1 y=true from by unfold gS;rw[e];rfl,d,<- i]
    simp only[Bool.not_false,Wb,mA,if_false,if_true]
    lia
 lia
def GN (nd:(web.map (·.1)).Nodup):qG [.lst (web.map pairD)]=some (.own (.bN (dm web))):=by
 have:∀l:bz,jl (l.map pairD)=some (dm l):=by
  intro l;induction l with
  | nil=>rfl
  | cons p l a =>
   show (jl (l.map pairD)).map _=_;rw[a];rfl
 show (jl (web.map pairD)).bind _=_;rw[this];refine if_pos ?_;unfold dm;rw[hA];exact nd
noncomputable def yN (fn:aQ):Prop:=∀web:bz,cj web->da web->fn [.lst (web.map pairD)]=some (.dat .aK)
def rJ (h:a Z=some (ds,Z1))(e:fn ds=some (.dat (.bl true))):oG (mz (fM (cJ fn a))) Z=some (false,Z1):=lj (fV (ak (aP h e) rfl) rfl)
def Jb (T:Txt mg) (w1:fg K mg "WALLS" nG)(x:bw P w K mg base "has_form" 3 (aF K c))(D:zG c)(G:bw P w K mg base "ties_are_shared" 1 (aF K d))(I:zy d)(J:bw P w K mg base "corners_close" 3 (aF K e))(L:zB e)(M:bw P w K mg base "wall_has_row" 2 (aF K g))(N:Ce g)(O:bw P w K mg base "all_reached" 2 (aF K i))(Q:xt i)(R:bw P w K mg base "threes_of" 2 (aF K j))(S:zu j)(U:bw P w K mg base "ties_of" 1 (aF K l))(V:yS l)(F:L2.bA K "must_web" "must_web" uY f m):∃fn,aV P w K mg base aX 4 f m ["web"] (aF K fn)/\yN fn:=by
 refine' ck F Ap (n:=1) rfl ?W ?B
 case W =>
  intro cdv A outer s H E hr;have nd:=Ap.nd;cases T;have hl:yO "rings":=⟨trivial⟩
  walk_at "ds"
 case B =>
  clear T F x G J M O R U;intro web h hw;have X:(dm web).length=web.length:=a8 ..;obtain⟨_,Y,ds,rfl,hd⟩:=V web h;refine' D1 rfl ?w
  case w =>
   show WS _ [.dat (.lst (web.map pairD)),.no] _;refine dD (rJ (ag rfl ao) (D web h)) rfl ?_;refine' aj (aJ (r:=.dat (br web)) (Z1:=[.dat (.lst (web.map pairD)),.no]) (Z2:=[.dat (.lst (web.map pairD)),.dat (br web)]) ?a rfl (aq ?b))
   case a =>
    unfold rZ;rw[aP (ag rfl ao) (GN h.nd)];rfl
   case b =>
    refine dD (rJ (ag rfl ao) (I web h λp o q t z=>?_)) rfl ?_
    ·have u:=hw.C.sym p.1 (a9.mpr ⟨p,o,rfl⟩) q.1 (a9.mpr ⟨q,t,rfl⟩);rw[dO h.nd o,dO h.nd t] at u;exact u z
    refine dD (rJ (ag rfl ao) (L web h hw)) rfl ?_;refine' dD (lj (fV (ak (nz (enc:=Dat.str) (xs:=cy) (λn=>[.no,.dat (.str n),.dat (br web)]) (Bb rfl) rfl ?c1 ?c2 ?c3 ?c4) rfl) rfl)) rfl ?c5
    case c1=>show 4<=bg;unfold bg;lia
    case c2=>intro y hy Z hd;rcases hd with rfl | ⟨z,rfl⟩ <;> rfl
    case c3 =>
     intro n v;obtain⟨k,hk,rfl⟩:=tO v;exact ak (aP (ag rfl (ag rfl ao)) (N web k hk h hw)) rfl
    case c4=>intro n v;rfl
    case c5 =>
     show WS _ [.dat (.lst (web.map pairD)),.dat (br web)] _;refine dD (rJ (ag rfl ao) (Q web h hw)) rfl ?_;refine' dD (bq (au (ak (aP (ag (ak (aP (ag rfl ao) (S web h hw)) rfl) ao) rfl) rfl) (ak (au (r:=.dat (.int ((ds.length:Int) - web.length + 1))) (ak (au (ak (aP (ag (ak (aP (ag rfl ao) Y) rfl) ao) rfl) rfl) (dZ rfl (congrArg some X)) (jY rfl)) rfl) rfl rfl) rfl) (ne_int _ _))) ?d2 (bf ⟨_,rfl⟩)
     case d2 =>
      have:=HN h hw;have:(TT (dh ((bQ web).map bU))).length=(dh ((bQ web).map bU)).length:=a8 ..;rw[decide_eq_true (by lia)]
      rfl
end
end bW
local macro_rules | `(tactic| walk_at "dfx")=>`(tactic| first|exact Oz|(refine' Jv ?a;(case a=>walk_at "dfx"))|(refine' IV ?a ?b;(case a=>walk_at "dd");(case b=>walk_at "dfx"))|fail)
local macro_rules | `(tactic| walk_at "dd0")=>`(tactic| (refine' Ii ?a;(case a=>walk_at "dfx")))
local macro_rules | `(tactic| walk_at "de0")=>`(tactic| first|(refine' JO ?a ?b ?c ?d;(case a=>rfl);(case b=>assumption);(case c=>rfl);(case d=>walk_at "da"))|(refine' BQ ?n ?x ?a ?b ?c ?d ?e ?f ?g ?h;(case x=>rfl);(case n=>exact tj (by rfl));(case a=>rfl);(case b=>exact p5 (by rfl));(case c=>rfl);(case d=>exact λ_=>rfl);(case e=>walk_at "dit");(case f=>(intro _ _ _ _ _;walk_at "dg"));(case g=>(intro _ _ _ _ _;walk_at "dfs"));(case h=>(intro _ _ _ _ _;walk_at "dd")))|fail)
local macro_rules | `(tactic| walk_at "dst")=>`(tactic| (refine' tX ?a ?b;(case a=>walk_at "dd");(case b=>rfl)))
namespace bW
section
variable {P:hJ}{w:kq}{K:gj}{mg:eT->Option b8}{base:m3}
noncomputable def sQ (a:List eT) (i:Nat) (q:eT):List Str:=a.take (i + 1)++q::a.drop (i + 1)
noncomputable def iU (a:List eT) (one q:eT):List Str:=sQ a ((a.findIdx? λx=>decide (x=one)).getD 0) q
noncomputable def C4 (fn:aQ):Prop:=∀(b:List eT) (one a q:eT),b.Nodup->b.length<=100->(∀n∈b,aZ n)->Tl.aD b one a->fn [.lst (b.map .str),.str one,.str a,.str q]=some (.own (.lst ((iU b one q).map .str)))
def tW {b:List eT}(nd:b.Nodup) {i:Nat}{a:eT}(h:b[i]? = some a):b.findIdx? (λx=>decide (x=a))=some i:=by
 obtain⟨c,e⟩:=bc.mp h;refine k9.mpr ⟨c,by simpa using e,λk hk z=>?_⟩
 have:=Tl.jC nd (i:=k) (bc.mpr ⟨by lia,by simpa using z⟩) h
 lia
def wD {b:List eT}{k:Nat}{a:eT}(h:b[k]? = some a):dv (.lst (b.map .str)) (.int (k:Int))=some (.str a):=by
 rw[mG];exact mM (by rw[cn,h];rfl)
def Kf (T:Txt mg)(F:L2.bA K "_law_between" "_law_between" xk f e):∃fn,aV P w K mg base aX 1 f e ["_law_names_here","_law_one","_law_other","_law_name"] (aF K fn)/\C4 fn:=by
 refine' ck F Bi (n:=4) rfl ?C ?B
 case C =>
  intro cdv A outer s H E hr;have nd:=Bi.nd;cases T
  walk_at "ds"
 case B =>
  clear T F;rintro b one a q nd hl c ⟨i,d,g⟩;have hi:=(bc.mp d).1;have h:=c one (eK d);have j:=c a (eK g);have k:=CG j j;rw[decide_eq_true rfl] at k;refine' cx rfl ?w
  case w =>
   show WS _ [.dat (.lst (b.map .str)),.dat (.str one),.dat (.str a),.dat (.str q),.no] _;refine' aj (aJ (Z2:=[.dat (.lst (b.map .str)),.dat (.str one),.dat (.str a),.dat (.str q),.dat (.int ((i + 1:Nat):Int))]) (au (oD rfl (ag rfl ao) (mS c) (fK h.ok) ((oV c h).trans (tW nd d))) rfl rfl) rfl (aq ?_));refine dD (bq (au (eO rfl (ak (au rfl (dZ rfl rfl) (jY ?_)) rfl) rfl ?_) rfl k)) rfl ?_
   ·rw[a8];exact decide_eq_true (by omega)
   ·rw[a8];exact wD g
   ·have l:=qC b (i + 1);have m:=uG b (i + 1);refine aj (bZ (au (ak (au (ak (iD rfl rfl l) rfl) (ak (dz (ag rfl ao) (by simp[bg])) rfl) (dW ?_)) rfl) (ak (ji rfl rfl m) rfl) (dW ?_)) ?_)
    ·simp[bg];lia
    ·simp[bg];omega
    ·dsimp only[iU,sQ];rw[tW nd d,f',mu];exact⟨_,rfl⟩
def oS (p)(h:0 < m)(h':m<=1000):∃(k:Nat) (c:Int×Int),k < m/\fA (pD p) [.int (m:Int)]=some (.dat (.int (k:Int)),pD c):=by
 obtain⟨a,b⟩:=eX p (m:=(m:Int)) (by omega)
 refine⟨(aT p m).toNat,cE p m,by omega,?_⟩
 rw[e8 p m ⟨by omega,?_⟩,sr a]
 exact Uq (Nat.log2_le_self _) (by omega)
def NJ {web:bz}{k:Nat}{p:eT×List eT}(h:web[k]? = some p):dv (.lst (web.map pairD)) (.int (k:Int))=some (pairD p):=by
 rw[mG];exact mM (by rw[cn,h];rfl)
noncomputable def lO (x a b q:eT) (p:eT×List eT):eT×List Str:=(p.1,if p.1=x then iU p.2 a q else if p.1=a then iU p.2 b q else if p.1=b then iU p.2 x q else p.2)
noncomputable def dQ (web:bz) (x a b q:eT):bz:=(q,[x,a,b])::web.map (lO x a b q)
noncomputable def xD (fn:dM):Prop:=∀(p:Int×Int) (web:bz) (q:eT),cj web->da web->web.length < 8->aZ q->∃r c,fn (pD p) [.lst (web.map pairD),.str q]=some (r,c)/\∃(x a b:eT) (d:Int×Int),x∈web.map (·.1)/\Tl.aD (cX web x) a b/\r=.own (.lst ((dQ web x a b q).map pairD))/\c=pD d
def D2 (T:Txt mg) (p1:bw P w K mg base "_law_take" 1 (cV K 0 fA))(q1:bw P w K mg base "_law_between" 1 (aF K O))(s1:C4 O)(F:L2.bA K "_law_put_in" "_law_put_in" uk f fd):∃fn,aV P w K mg base aX 2 f fd ["_law_web_here","_law_name","_law_purse_here"] (cV K 2 fn)/\xD fn:=by
 refine' mP (j:=2) F zw (n:=2) rfl ?hb ?V
 case hb =>
  intro cdv A outer s H E hr;have nd:=zw.nd;cases T
  walk_at "ds"
 case V =>
  clear T F p1 q1;intro p web q h hw h8 tq;have bL:=h.bL;refine' m8 rfl ?w
  case w =>
   show WS _ [.dat (.lst (web.map pairD)),.dat (.str q),.io (pD p),.no,.no,.no,.no,.no,.no,.no,.no] _;have ln:dH (.lst (web.map pairD))=some web.length:=by simp[dH]
   obtain⟨i,p2,hi,t1⟩:=oS p (m:=web.length) (by omega) (by omega)
   obtain⟨x,ex⟩:∃x,web[i]? = some x:=⟨_,cm hi⟩;have hx:=eK ex;have rx:=h.rg x hx;have lx:=h.len hx;refine' aj (tL (Z2:=[.dat (.lst (web.map pairD)),.dat (.str q),.io (pD p2),.dat (.str x.1),.dat (.lst (x.2.map .str)),.no,.no,.no,.no,.no,.no]) (eO rfl (ak (cZ rfl (ag (dZ rfl ln) ao) rfl t1 rfl) rfl) rfl (NJ ex)) rfl (aq ?_));have R:dH (.lst (x.2.map .str))=some x.2.length:=by simp[dH]
   obtain⟨j,c,hj,t2⟩:=oS p2 (m:=x.2.length) (by omega) (by omega)
   obtain⟨a,ea⟩:∃a,x.2[j]? = some a:=⟨_,cm hj⟩;obtain⟨b,eb⟩:∃b,x.2[(j + 1) % x.2.length]? = some b:=⟨_,cm (Vw _ (by omega))⟩
   refine' aj (aJ (Z2:=[.dat (.lst (web.map pairD)),.dat (.str q),.io (pD c),.dat (.str x.1),.dat (.lst (x.2.map .str)),.dat (.int (j:Int)),.no,.no,.no,.no,.no]) (cZ rfl (ag (dZ rfl R) ao) rfl t2 rfl) rfl (aq ?_));refine' aj (aJ (Z2:=[.dat (.lst (web.map pairD)),.dat (.str q),.io (pD c),.dat (.str x.1),.dat (.lst (x.2.map .str)),.dat (.int (j:Int)),.dat (.str a),.no,.no,.no,.no]) (v_res (eO rfl rfl rfl (wD ea))) rfl (aq ?_));refine' aj (aJ (Z2:=[.dat (.lst (web.map pairD)),.dat (.str q),.io (pD c),.dat (.str x.1),.dat (.lst (x.2.map .str)),.dat (.int (j:Int)),.dat (.str a),.dat (.str b),.no,.no,.no]) (v_res (eO rfl (ak (au (ak (au (r:=.dat (.int ((j + 1:Nat):Int))) rfl rfl rfl) rfl) (dZ rfl R) (jY (decide_eq_true (by omega)))) rfl) rfl (wD eb))) rfl (aq ?_))
   refine' aj (aJ (Z2:=[.dat (.lst (web.map pairD)),.dat (.str q),.io (pD c),.dat (.str x.1),.dat (.lst (x.2.map .str)),.dat (.int (j:Int)),.dat (.str a),.dat (.str b),.own (.lst [pairD (q,[x.1,a,b])]),.no,.no]) (dz (ag (il (ag rfl (ag (ak (dz (ag rfl (ag rfl (ag rfl ao))) (by simp[bg])) rfl) ao)) (by simp[bg])) ao) (by simp[bg])) rfl (aq ?_))
   have W:Tl.aD x.2 a b:=⟨j,ea,eb⟩;have e:x.1∈web.map (·.1):=a9.mpr ⟨x,hx,rfl⟩;have g:Tl.aD (cX web x.1) a b:=by rw[dO h.nd hx];exact W
   have tx:=h.txt (.inl e);have ta:=h.txt (rx.2.2 a W.mem.1).1;have tb:=h.txt (rx.2.2 b W.mem.2).1;have ap:=hw.C.apart e g;refine' aj (d7 (λk Z=>∃I l,Fr I/\Fr l/\Z=[.dat (.lst (web.map pairD)),.dat (.str q),.io (pD c),.dat (.str x.1),.dat (.lst (x.2.map .str)),.dat (.int (j:Int)),.dat (.str a),.dat (.str b),.own (.lst ((dQ (web.take k) x.1 a b q).map pairD)),I,l]) (cF rfl) ⟨_,_,.inl rfl,.inl rfl,rfl⟩ ?st ?fin)
   case fin =>
    rintro _ ⟨I,l,f9,S,rfl⟩;rw[a8,q0];exact aq (aj (bZ rfl (gH ⟨_,_,_,rfl,rfl,x.1,a,b,c,e,g,rfl,rfl⟩)))
   case st =>
    rintro k y hy _ ⟨I,l,f9,S,rfl⟩;rw[cn] at hy;obtain⟨z,ez,rfl⟩:=g0.mp hy;have J:=eK ez;have D:z.1∈web.map (·.1):=a9.mpr ⟨z,J,rfl⟩;have X:=h.txt (.inl D);have rz:=h.rg z J;have lz:=h.len J;have O':∀n∈z.2,aZ n:=λn hn=>h.txt (rz.2.2 n hn).1
    have Y:=λone u (s:Tl.aD (cX web z.1) one u)=>s1 z.2 one u q rz.2.1 (by lia) O' (by rw[dO h.nd J] at s;exact s)
    have L:=o5 X.ok tx.ok;have M:=o5 X.ok ta.ok;have N:=o5 X.ok tb.ok;have eW:dQ (web.take (k + 1)) x.1 a b q=dQ (web.take k) x.1 a b q++[lO x.1 a b q z]:=by unfold dQ;rw[gJ ez];simp
    have Pa:((dQ (web.take k) x.1 a b q).map pairD).length < sizeLine:=by
     unfold dQ bg;simp only[a8,fk,a8,gg];omega
    simp only[eW,f'];generalize (dQ (web.take k) x.1 a b q).map pairD=U at *;refine⟨[.dat (.lst (web.map pairD)),.dat (.str q),.io (pD c),.dat (.str x.1),.dat (.lst (x.2.map .str)),.dat (.int (j:Int)),.dat (.str a),.dat (.str b),.own (.lst U),.dat (.str z.1),.dat (.lst (z.2.map .str))],by rcases f9 with rfl | ⟨d,rfl⟩ <;> rcases S with rfl | ⟨d,rfl⟩ <;> rfl,?_⟩
    refine aj (WS.mono (Q:=λo=>∃t,(t=.own (.lst ((lO x.1 a b q z).2.map .str))\/t=.dat (.lst ((lO x.1 a b q z).2.map .str)))/\o=.next [.dat (.lst (web.map pairD)),.dat (.str q),.io (pD c),.dat (.str x.1),.dat (.lst (x.2.map .str)),.dat (.int (j:Int)),.dat (.str a),.dat (.str b),.own (.lst U),.dat (.str z.1),t]) ?_ ?_)
    ·dsimp only[lO]
     by_cases G:z.1=x.1
     ·rw[decide_eq_true G] at L;rw[if_pos G];exact eL (bq (au rfl rfl L)) (λ_=>aj (aJ (aP (ag rfl (ag rfl (ag rfl (ag rfl ao)))) (Y a b (G ▸ g))) rfl (aq (bf ⟨_,.inl rfl,rfl⟩)))) (λz=>by cases z)
     ·rw[decide_eq_false G] at L;rw[if_neg G];refine eL (bq (au rfl rfl L)) (λz=>by cases z) λ_=>aj ?_
      by_cases v:z.1=a
      ·rw[decide_eq_true v] at M;rw[if_pos v];have:=hw.C.fE x.1 e a b g (v ▸ D);exact eL (bq (au rfl rfl M)) (λ_=>aj (aJ (aP (ag rfl (ag rfl (ag rfl (ag rfl ao)))) (Y b x.1 (v ▸ this))) rfl (aq (bf (aq (bf ⟨_,.inl rfl,rfl⟩)))))) (λz=>by cases z)
      ·rw[decide_eq_false v] at M;rw[if_neg v];refine eL (bq (au rfl rfl M)) (λz=>by cases z) λ_=>aj ?_
       by_cases B:z.1=b
       ·rw[decide_eq_true B] at N;rw[if_pos B];have:=hw.C.fI x.1 e a b g (B ▸ D);exact eL (bq (au rfl rfl N)) (λ_=>aj (aJ (aP (ag rfl (ag rfl (ag rfl (ag rfl ao)))) (Y x.1 a (B ▸ this))) rfl (aq (bf (aq (bf (aq (bf ⟨_,.inl rfl,rfl⟩)))))))) (λz=>by cases z)
       ·rw[decide_eq_false B] at N;rw[if_neg B];exact eL (bq (au rfl rfl N)) (λz=>by cases z) λ_=>bf (aq (bf (aq (bf ⟨_,.inr rfl,rfl⟩))))
    ·rintro _ ⟨t,ht,rfl⟩
     rcases ht with rfl | rfl <;> exact aq (aj ⟨_,kG (FZ rfl (ag (il (ag rfl (ag rfl ao)) (by simp[bg])) ao) rfl Pa),aq (bf ⟨.dat (.str z.1),.dat (.lst ((lO x.1 a b q z).2.map .str)),.inr ⟨_,rfl⟩,.inr ⟨_,rfl⟩,rfl⟩)⟩)
def uw (hw:da web)(bL:1<=web.length/\web.length<=8)(nm:∀p∈web,dq p.1=true):cj web:=by
 refine⟨bL,nm,hw.C.fS,λp b=>?_⟩
 have a:p.1∈web.map (·.1):=a9.mpr ⟨p,b,rfl⟩;have e:=dO hw.C.fS b;have c:=hw.C.len p.1 a;have d:=hw.C.nd p.1 a;have f:=hw.C.mem p.1 a;have g:=hw.C.eG p.1 a;rw[e] at c d f g;exact⟨c,d,λn h=>⟨f n h,λz=>g (z ▸ h)⟩⟩
def GO (nd:b.Nodup)(d:3<=b.length)(s:Tl.aD b one a):Tl.pJ b one a q (iU b one q):=by
 obtain⟨i,c,e⟩:=s;unfold iU sQ;rw[tW nd c];exact Tl.NU nd d c e
def sA (web) (x a b q):(dQ web x a b q).map (·.1)=q::web.map (·.1):=by
 unfold dQ;rw[gi,hA];rfl
theorem da.put (h:cj web)(hw:da web)(hx:x∈web.map (·.1))(d:Tl.aD (cX web x) a b)(m:q∉web.map (·.1))(f:dq q=true)(h8:web.length < 8):cj (dQ web x a b q)/\da (dQ web x a b q):=by
 have i:((dQ web x a b q).map (·.1)).Nodup:=by rw[sA];exact ib.mpr ⟨m,h.nd⟩
 have at_:∀y∈web.map (·.1),cX (dQ web x a b q) y=if y=x then iU (cX web y) a q else if y=a then iU (cX web y) b q else if y=b then iU (cX web y) x q else cX web y:=λy c=>by
  obtain⟨p,g,rfl⟩:=a9.mp c;rw[dO h.nd g];exact dO i (p:=lO x a b q p) (ew _ (a9.mpr ⟨p,g,rfl⟩))
 have j:=λy (c:y∈web.map (·.1)) {u v:eT}(s:Tl.aD (cX web y) u v)=>GO (q:=q) (hw.C.nd y c) (hw.C.len y c) s
 have ap:=hw.C.apart hx d;have pt:Tl.gE (web.map (·.1)) [aN 0,aN 1,aN 2,aN 3] (cX web) x a b q (cX (dQ web x a b q)):={
  hx:=hx
  ab:=d
  qr:=m
  qw:=λz=>by
   have:=(mY q).mpr z;unfold dq at f;rw[this] at f;simp at f
  rq:=dO i (p:=(q,[x,a,b])) eH
  rx:=by rw[at_ x hx,if_pos rfl];exact j x hx d
  ra:=λk=>by rw[at_ a k,if_neg ap.1.symm,if_pos rfl];exact j a k (hw.C.fE x hx a b d k)
  rb:=λl=>by rw[at_ b l,if_neg ap.2.1.symm,if_neg ap.2.2.symm,if_pos rfl];exact j b l (hw.C.fI x hx a b d l)
  ro:=λy c o r t=>by rw[at_ y c,if_neg o,if_neg r,if_neg t] }
 have n:da (dQ web x a b q):=by
  unfold da;rw[sA];exact Tl.iE.put hw pt wR
 refine⟨uw n ?_ λp g=>?_,n⟩
 ·unfold dQ;rw[fk,a8];omega
 ·have:p.1∈q::web.map (·.1):=by rw[<- sA web x a b q];exact a9.mpr ⟨p,g,rfl⟩
  rcases cR.mp this with e | e
  ·rw[e];exact f
  ·obtain⟨z,A,e⟩:=a9.mp e;rw[<- e];exact h.nm z A
def D9 (h:dq n=true):bC [(n,⟨0,0,1,1⟩)]/\kj [(n,⟨0,0,1,1⟩)]=false:=by
 refine⟨⟨by simp,by simp,λx hx=>?_,λx hx=>?_,by simp,by simp,rfl⟩,?_⟩
 ·rw[iR.mp hx];exact h
 ·rw[iR.mp hx];show (0:Int)<=0/\(0:Int) < 1/\(0:Int)<=0/\(0:Int) < 1;decide
 ·show decide (∃p∈cf.oh [⟨0,0,1,1⟩],3 < (cf.oh [⟨0,0,1,1⟩]).count p)=false;decide +kernel
def LA (F:bC rs)(a:kj rs=false):cj (mT rs)/\da (mT rs):=by
 have p:(mT rs).Perm (rs.map λy=>(y.1,aU (cQ rs y.2 4))):=gp _ _
 have hw:=F.uU a p;refine⟨uw hw ?_ λz b=>?_,hw⟩
 ·rw[p.length_eq,a8];exact⟨ka.mpr F.ne,F.bL⟩
 ·obtain⟨y,c,rfl⟩:=a9.mp (p.mem_iff.mp b);exact F.nm y c
noncomputable def Sl (t:DV.Slot) (d:Dat):Prop:=t=.own d\/t=.dat d
noncomputable abbrev ml:List Str:=["yq","yqq","yqqq"]
def JH:∀n∈ml,dq n=true:=by
 intro n a;simp only[cR,fm,or_false] at a
 rcases a with rfl | rfl | rfl <;> decide +kernel
def J0:ml.Nodup:=by decide +kernel
noncomputable def tV (web a:bz):Prop:=(a.map (·.1)).Perm (web.map (·.1))/\∀z∈a,∃p∈web,p.1=z.1/\Tl.fZ p.2 z.2
def tV.ok (t:tV web a)(h:cj web)(hw:da web):cj a/\da a:=by
 have nd:(a.map (·.1)).Nodup:=t.1.nodup_iff.mpr h.nd;have d:da a:=Tl.iE.turn hw t.1 λx hx=>by
  obtain⟨z,b,rfl⟩:=a9.mp (t.1.mem_iff.mpr hx);obtain⟨p,c,e,f⟩:=t.2 z b;rw[dO nd b,<- e,dO h.nd c];exact f
 have g:=t.1.length_eq;simp only[a8,a8] at g;have bL:=h.bL;refine⟨uw d (by lia) λz b=>?_,d⟩
 obtain⟨p,c,e,_⟩:=t.2 z b;rw[<- e];exact h.nm p c
noncomputable def B' (fn:dM):Prop:=∀p:Int×Int,∃r a,fn (pD p) []=some (r,a)/\∃(web:bz) (b:Int×Int),r=.own (.lst (web.map pairD))/\a=pD b/\cj web/\da web
def N4 (T:Txt mg) (T2:j7 mg) (I:bw P w K mg base "_law_take" 1 (cV K 0 fA))(q1:bw P w K mg base "_law_rows" 4 (cV K 0 O8))(s1:vd O8)(Y:bw P w K mg base "_law_meeting" 1 (aF K O'))(s2:AS O')(q3:bw P w K mg base "_law_web" 4 (aF K Pa))(s3:AG Pa)(q4:bw P w K mg base "_law_put_in" 2 (cV K 2 O9))(s4:xD O9)(F:L2.bA K "_law_any_web" "_law_any_web" tR f fd):∃fn,aV P w K mg base aX 5 f fd ["_law_purse_here"] (cV K 0 fn)/\B' fn:=by
 refine' mP (j:=0) F yT (n:=0) rfl ?hb ?post
 case hb =>
  intro cdv A outer s H E hr;have nd:=yT.nd;cases T;cases T2
  walk_at "ds"
 case post =>
  clear T T2 F I q1 Y q3 q4;intro p;refine' m8 rfl ?w
  case w =>
   show WS _ [.io (pD p),.no,.no,.no,.no,.no,.no,.no,.no] _;obtain⟨_,_,e1,rs,I,rfl,rfl,L,ok,_⟩:=s1 p 9 (by decide) (by decide)
   refine' aj (aJ (Z2:=[.io (pD I),.own (aH rs),.no,.no,.no,.no,.no,.no,.no]) (cZ rfl (ag rfl ao) rfl e1 rfl) rfl (aq ?_));refine' aj (WS.mono (Q:=λo=>∃e t1,Sl t1 (aH e)/\bC e/\kj e=false/\o=.next [.io (pD I),t1,.no,.no,.no,.no,.no,.no,.no]) ?m1 ?m2)
   case m1 =>
    refine eL (fV (ak (aP (ag rfl ao) (s2 rs ok.bL)) rfl) rfl) (λz=>?_) λz=>bf ⟨rs,_,.inr rfl,L,z,rfl⟩
    obtain⟨x,r',rfl⟩:=Uk L.ne;obtain⟨R,S⟩:=D9 (L.nm x eH);exact aj (aJ (Z2:=[.io (pD I),.own (aH [(x.1,⟨0,0,1,1⟩)]),.no,.no,.no,.no,.no,.no,.no]) (dz (ag (il (ag (kU (c:=aG x) (eO rfl rfl rfl (OT (k:=0) rfl)) rfl rfl) (ag rfl (ag rfl (ag rfl (ag rfl ao))))) (by simp[bg])) ao) (by simp[bg])) rfl (aq (bf ⟨_,_,.inl rfl,R,S,rfl⟩)))
   case m2 =>
    rintro _ ⟨e,t1,Pl,J,hm,rfl⟩;clear L ok e1;obtain⟨h,hw⟩:=LA J hm;have e3:=s3 e (by have:=J.bL;omega) (λy B=>je (J.nm y B)) J.nd (λy _=>J.some y.2)
    rw[Nf] at e3;generalize mT e=g at *;refine aq ?_;refine' aj (aJ (Z2:=[.io (pD I),.dat (aH e),.own (.lst (g.map pairD)),.no,.no,.no,.no,.no,.no]) (aP (ag (d:=aH e) (Z1:=[.io (pD I),.dat (aH e),.no,.no,.no,.no,.no,.no,.no]) ?a1 ao) e3) rfl (aq ?a2))
    case a1=>rcases Pl with rfl | rfl <;> rfl
    case a2 =>
     have bL:=h.bL;have sz:g.length<=sizeLine:=by unfold bg;lia
     refine' aj (aJ (Z2:=[.io (pD I),.dat (aH e),.dat (.lst (g.map pairD)),.own (.lst ((g.map (·.1)).map .str)),.no,.no,.no,.no,.no]) (fY (enc:=pairD) (xs:=g) (λp=>[.no,.dat (.str p.1),.dat (.lst (p.2.map .str))]) (λp=>.str p.1) (cF rfl) rfl sz ?c4 ?c5 ?c6) ?c7 (aq ?c8))
     case c4=>intro y B Z hd;rcases hd with rfl | ⟨z,rfl⟩ <;> rfl
     case c5=>intro p hp;rfl
     case c6=>intro p hp;rfl
     case c7=>rw[hA];rfl
     case c8 =>
      obtain⟨k0,p2,hk0,t0⟩:=oS I (m:=4) (by lia) (by lia)
      have tu:∀n∈g.map (·.1),aZ n:=λn hn=>h.txt (.inl hn)
      have si:=qC ml k0;refine' aj (d7 (λj Z=>∃web u v t C,Sl v (.lst (web.map pairD))/\Sl t (.lst ((g.map (·.1)).map .str))/\Fr C/\cj web/\da web/\(∀n∈web.map (·.1),n∈g.map (·.1)\/n∈ml.take j)/\Z=[.io (pD u),.dat (aH e),v,t,C,.no,.no,.no,.no]) (cF (ak (iD (ak (dz (ag rfl (ag rfl (ag rfl ao))) (by simp[bg])) rfl) (ak (cZ rfl (ag rfl ao) rfl t0 rfl) rfl) si) rfl)) ⟨g,p2,_,_,_,.inr rfl,.inl rfl,.inl rfl,h,hw,λn hn=>.inl hn,rfl⟩ ?st ?fin)
      case st =>
       rintro j x hx _ ⟨web,u,v,t,C,G,U,f4,D,N,M,rfl⟩;rw[cn] at hx;obtain⟨n,O,rfl⟩:=g0.mp hx;have Pp:j < k0:=by have:=(bc.mp O).1;rw[gg] at this;omega
       rw[Uj,if_pos Pp] at O;have ny:=JH n (eK O);have tn:=je ny;have Pu:=md tu tn true;have bL:=D.bL;have V:∀m∈ml.take j,m∈ml.take (j + 1):=λm hm=>by rw[gJ O];exact ee.mpr (.inl hm)
       refine⟨[.io (pD u),.dat (aH e),v,t,.dat (.str n),.no,.no,.no,.no],by rcases f4 with rfl | ⟨d,rfl⟩ <;> rfl,?_⟩
       have l1:eI (cg oj (mQ 2) (fC (.int 8))) [.io (pD u),.dat (aH e),v,t,.dat (.str n),.no,.no,.no,.no]=some (decide ((web.length:Int) < 8),[.io (pD u),.dat (aH e),v,t,.dat (.str n),.no,.no,.no,.no]):=by
        rw[<- a8 (as:=web) (f:=pairD)]
        rcases G with rfl | rfl <;> exact bq (au (dZ rfl rfl) rfl rfl)
       by_cases c8:(web.length:Int) < 8
       rotate_left
       ·rw[decide_eq_false c8] at l1;exact dD (v_and l1 (sZ rfl rfl)) rfl (bf ⟨web,u,v,t,_,G,U,.inr ⟨_,rfl⟩,D,N,λm hm=>(M m hm).imp id (V m),rfl⟩)
       rw[decide_eq_true c8] at l1;refine aj (eL (Z1:=[.io (pD u),.dat (aH e),v,.dat (.lst ((g.map (·.1)).map .str)),.dat (.str n),.no,.no,.no,.no]) (b:=!decide (n∈g.map (·.1))) (v_and l1 (ui rfl ?_)) (λz=>?_) λz=>bf (aq (bf ⟨web,u,v,_,_,G,.inr rfl,.inr ⟨_,rfl⟩,D,N,λm hm=>(M m hm).imp id (V m),rfl⟩)))
       ·rcases U with rfl | rfl <;> exact bq (au rfl rfl Pu)
       ·simp only[nq,decide_eq_false_iff_not] at z;obtain⟨_,_,e4,x,a,b,p',hx,sc,rfl,rfl⟩:=s4 u web n D N (by omega) tn
        have Pw:n∉web.map (·.1):=λhm=>(M n hm).elim z λhm=>by
         obtain⟨i,hi⟩:=U2.mp hm;have Px:=(bc.mp hi).1;rw[gg] at Px;rw[Uj,if_pos (by omega)] at hi
         have:=Tl.jC J0 hi O;omega
        obtain⟨R,S⟩:=da.put D N hx sc Pw ny (by omega)
        refine aj (aJ (Z2:=[.io (pD p'),.dat (aH e),.own (.lst ((dQ web x a b n).map pairD)),.dat (.lst ((g.map (·.1)).map .str)),.dat (.str n),.no,.no,.no,.no]) (r:=.own (.lst ((dQ web x a b n).map pairD))) (Z1:=[.io (pD p'),.dat (aH e),.dat (.lst (web.map pairD)),.dat (.lst ((g.map (·.1)).map .str)),.dat (.str n),.no,.no,.no,.no]) ?_ rfl (aq (bf (aq (bf ⟨_,p',_,_,_,.inl rfl,.inr rfl,.inr ⟨_,rfl⟩,R,S,λm hm=>?_,rfl⟩)))))
        ·rcases G with rfl | rfl <;> exact cZ rfl (ag rfl (ag rfl ao)) rfl e4 rfl
        ·rw[sA] at hm
         rcases cR.mp hm with rfl | hm
         ·exact .inr (by rw[gJ O];simp)
         ·exact (M m hm).imp id (V m)
      case fin =>
       rintro _ ⟨web,u,v,t,C,G,U,f4,D,N,_,rfl⟩;clear h hw e3 si;have bL:=D.bL;refine' aq (aj (aJ (Z2:=[.io (pD u),.dat (aH e),v,t,C,.own (.lst []),.no,.no,.no]) (dz ao (qh _)) rfl (aq ?_)));refine' aj (d7 (ds:=web.map pairD) (Z1:=[.io (pD u),.dat (aH e),.dat (.lst (web.map pairD)),t,C,.own (.lst []),.no,.no,.no]) (λk Z=>∃(l:bz) (q:Int×Int) (t6 t7 W:DV.Slot),Fr t6/\Fr t7/\Fr W/\(l.map (·.1)).Perm ((web.take k).map (·.1))/\(∀z∈l,∃p∈web,p.1=z.1/\Tl.fZ p.2 z.2)/\Z=[.io (pD q),.dat (aH e),.dat (.lst (web.map pairD)),t,C,.own (.lst (l.map pairD)),t6,t7,W]) ?i0 ⟨[],u,_,_,_,.inl rfl,.inl rfl,.inl rfl,.refl _,λz X=>(by cases X),rfl⟩ ?st2 ?fin2)
       case i0=>rcases G with rfl | rfl <;> exact cF rfl
       case fin2 =>
        rintro _ ⟨l,q,t6,t7,W,_,_,_,pm,tw,rfl⟩;rw[a8,q0] at pm;obtain⟨R,S⟩:=tV.ok ⟨pm,tw⟩ D N;exact aq (aj (bZ rfl (gH ⟨_,_,_,rfl,rfl,l,q,rfl,rfl,R,S⟩)))
       case st2 =>
        rintro k x hx _ ⟨l,q,t6,t7,W,f6,f7,f8,pm,tw,rfl⟩;rw[cn] at hx;obtain⟨z,ez,rfl⟩:=g0.mp hx;have X:=eK ez;have rz:=D.rg z X;have lz:=D.len X;have wl:=pm.length_eq;simp only[a8,a8,gg] at wl;refine⟨[.io (pD q),.dat (aH e),.dat (.lst (web.map pairD)),t,C,.own (.lst (l.map pairD)),.dat (.str z.1),.dat (.lst (z.2.map .str)),W],by rcases f6 with rfl | ⟨d,rfl⟩ <;> rcases f7 with rfl | ⟨d,rfl⟩ <;> rfl,?_⟩
        obtain⟨i,Y,hi,u1⟩:=oS q (m:=z.2.length) (by omega) (by lia)
        obtain⟨j,q3,hj,u2⟩:=oS Y (m:=l.length + 1) (by lia) (by omega)
        have ln:dH (.lst (z.2.map .str))=some z.2.length:=by simp[dH]
        have Pz:dH (.lst (l.map pairD))=some l.length:=by simp[dH]
        refine' aj (aJ (Z2:=[.io (pD Y),.dat (aH e),.dat (.lst (web.map pairD)),t,C,.own (.lst (l.map pairD)),.dat (.str z.1),.dat (.lst (z.2.map .str)),.dat (.int (i:Int))]) (cZ rfl (ag (dZ rfl ln) ao) rfl u1 rfl) ?b1 (aq ?b2))
        case b1=>rcases f8 with rfl | ⟨d,rfl⟩ <;> rfl
        case b2 =>
         have s1:=uG z.2 i;have s2:=qC z.2 i;refine aj ⟨_,kG (yC (xs:=l.map pairD) (n:=(j:Int)) (d:=pairD (z.1,z.2.drop i++z.2.take i)) (Z1:=[.io (pD q3),.dat (aH e),.dat (.lst (web.map pairD)),t,C,.own (.lst (l.map pairD)),.dat (.str z.1),.dat (.lst (z.2.map .str)),.dat (.int (i:Int))]) rfl (ag (ak (cZ rfl (ag (ak (au (r:=.dat (.int ((l.length + 1:Nat):Int))) (dZ rfl Pz) rfl rfl) rfl) ao) rfl u2 rfl) rfl) (ag ?_ ao)) rfl (by rw[a8];unfold bg;lia)),aq (bf ⟨l.take j++(z.1,z.2.drop i++z.2.take i)::l.drop j,q3,.dat (.str z.1),.dat (.lst (z.2.map .str)),.dat (.int (i:Int)),.inr ⟨_,rfl⟩,.inr ⟨_,rfl⟩,.inr ⟨_,rfl⟩,?_,?_,?_⟩)⟩
         ·dsimp only[pairD];rw[f'];exact il (ag rfl (ag (ak (au (ak (ji rfl rfl s1) rfl) (ak (iD rfl rfl s2) rfl) (dW (by simp[bg];lia))) rfl) ao)) (by simp[bg])
         ·simp only[gJ ez,f',f',gi];refine List.perm_middle.trans ?_;rw[<- f',qt];exact (List.Perm.cons z.1 pm).trans (V' _ _).symm
         ·intro y B
          rcases ee.mp B with B | B
          ·exact tw y (WT B)
          ·rcases cR.mp B with rfl | B
           ·exact⟨z,X,rfl,z.2.take i,z.2.drop i,(qt ..).symm,rfl⟩
           ·exact tw y (List.mem_of_mem_drop B)
         ·simp only[f',gi,Hz,H9];rfl
def CT {a b:eT}(h:a.cps.toList=b.cps.toList):a=b:=Str.ext' (Array.toList_inj.mp h)
def gf (a b:eT):(a++b).cps.toList=a.cps.toList++b.cps.toList:=by rw[zd,sj]
def join_eq (sep) (ys):j5 sep ys=TM sep ys:=Wi sep ys
theorem wF:∀(xs:List a) (f:a->Nat) (B:Nat),(∀x∈xs,f x<=B)->(xs.map f).sum<=xs.length * B
 | [],f,B,_=>by simp
 | x::xs,f,B,h=>by
  have h1:=h x eH;have h2:=wF xs f B λy b=>h y (ew _ b)
  simp only[gi,rp,fk,VF]
  lia
def wX (h:f Z=some (.str y,Z1))(a:y.length<=bg)(b:(out++y).length<=bg):iS f F out Z=F (out++y) Z1:=by
 unfold iS;rw[h];show (if y.length<=bg then some y else none).bind _=_
 rw[if_pos a];exact if_pos b
def oJ (b:(out++a).length<=bg):lK a F out Z=F (out++a) Z:=if_pos b
def kX {a:Type}{f:DF}{Z Z1:DS}{sep:eT}{xs:List a}(g:a->eT) {B:Nat}(h:f Z=some (.lst (xs.map λx=>.str (g x)),Z1)) (b:sep.length<=16) (c:∀x∈xs,(g x).length<=B) (hn:xs.length * B + xs.length<=1048576):jA sep f Z=some (.str (j5 sep (xs.map g)),Z1):=by
 refine CZ h (kN g xs) ⟨b,?_⟩;have:=wF xs (λx=>(g x).length) B c
 simp only[hA,a8];show (xs.map λx=>(g x).length).sum + _<=_
 lia
noncomputable def fT (web:bz):bz:=web.mergeSort λa b=>bX a.1 b.1
def yh (web):gy (web.map pairD)=(fT web).map pairD:=(ri (r:=λa b:eT×List eT=>bX a.1 b.1) (s:=dw) (f:=pairD) (λa _ b _=>rfl)).symm
def xf:p∈fT web ↔ p∈web:=(gp _ _).mem_iff
def A0 (web):(fT web).length=web.length:=(gp _ _).length_eq
def Ed (web):fT (web.map λp=>(p.1,aU p.2))=(fT web).map λp=>(p.1,aU p.2):=(ri (r:=λa b:eT×List eT=>bX a.1 b.1) (s:=λa b:eT×List eT=>bX a.1 b.1) (f:=λp:eT×List eT=>(p.1,aU p.2)) (λa _ b _=>rfl)).symm
noncomputable def fO (p:eT×List eT):Str:=n4++p.1++ec ": " ++ j5 (ec " ") p.2
noncomputable def kd (web:bz):Str:=j5 (ec "\n") ((fT web).map λp=>fO (p.1,aU p.2))
def JA (h:p.2≠[]):p.1++ec ":" ++ j5 (ec "") (p.2.map λn=>ec " " ++ n)=fO p:=by
 have key:∀l:List eT,l≠[]->(TM (ec "") (l.map λn=>ec " " ++ n)).cps.toList=(ec " ").cps.toList++(TM (ec " ") l).cps.toList:=by
  intro l;induction l with
  | nil=>intro h;exact absurd rfl h
  | cons a l c =>
   intro _;cases l with
   | nil=>exact gf _ _
   | cons b r =>
    have i:=c (by simp)
    show ((ec " " ++ a)++ec "" ++ TM (ec "") ((b::r).map λn=>ec " " ++ n)).cps.toList=(ec " ").cps.toList++(a++ec " " ++ TM (ec " ") (b::r)).cps.toList
    simp only[gf,i,gf,gf,gf,gf,show (ec "").cps.toList=[] from rfl]
    simp
 apply CT;unfold fO;rw[join_eq,join_eq];simp only[gf,key p.2 h,gf,gf,gf,gf,show (ec ": ").cps.toList=(ec ":").cps.toList++(ec " ").cps.toList from by decide +kernel,show n4.cps.toList=[] from rfl]
 simp
def cj.short (h:cj web)(a:n∈web.map (·.1)\/n∈cy):n.length<=8:=by
 rcases a with a | a
 ·obtain⟨p,b,rfl⟩:=a9.mp a;have:=h.nm p b;unfold dq at this;simp only[dV,decide_eq_true_eq] at this
  lia
 ·simp only[cy,cR,fm,or_false] at a
  rcases a with rfl | rfl | rfl | rfl <;> decide +kernel
def Ag:n∈aU l ↔ n∈l:=(xi l).perm.mem_iff
def Lp (sep) (ys)(a:sep.length<=1)(h:∀y∈ys,y.length<=B):(j5 sep ys).length<=ys.length * (B + 1):=by
 unfold j5;rw[size_glued];have h1:=wF ys (λy=>y.length) B h
 have h2:(ys.length - 1) * sep.length<=ys.length:=pA (Nat.mul_le_mul (Zj _ _) a) (by lia)
 simp only[Nat.mul_succ]
 lia
structure LU (web:bz):Prop where
 n1:web.length<=8
 n2:∀p∈fT web,p.1.length<=8/\aU p.2≠[]/\(aU p.2).length<=12/\∀n∈aU p.2,n.length<=8
 n3:∀p∈fT web,(fO (p.1,aU p.2)).length<=200
def cj.fx (h:cj web):LU web:=by
 have n2:∀p∈fT web,p.1.length<=8/\aU p.2≠[]/\(aU p.2).length<=12/\∀n∈aU p.2,n.length<=8:=λp a=>by
  have a:=xf.mp a;have r:=h.rg p a;have e:=(xi p.2).perm.length_eq;exact⟨h.short (.inl (a9.mpr ⟨p,a,rfl⟩)),λz=>by rw[z] at e;simp at e;omega,by rw[e];exact h.len a,λn b=>h.short (r.2.2 n (Ag.mp b)).1⟩
 refine⟨h.bL.2,n2,λp a=>?_⟩
 obtain⟨a1,a2,c,d⟩:=n2 p a;have:=Lp (ec " ") (aU p.2) (by decide +kernel) d
 dsimp only[fO];simp only[ir,ir,ir,show (ec ": ").length=2 from by decide +kernel,show Str.empty.length=0 from rfl]
 show 0 + p.1.length + 2 + (j5 (ec " ") (aU p.2)).length<=200;have:=W7 9 c
 lia
noncomputable def rh (fn:aQ):Prop:=∀web:bz,cj web->da web->fn [.lst (web.map pairD)]=some (.dat (.str (kd web)))
def NI (T:Txt mg)(t:bw P w K mg base "must_web" 4 (aF K j))(u:yN j)(v:bw P w K mg base "in_order" 2 (aF K l))(G:C9 l)(F:L2.bA K "show_web" "show_web" vM f q):∃fn,aV P w K mg base aX 5 f q ["web"] (aF K fn)/\rh fn:=by
 refine' ck F CF (n:=1) rfl ?I ?C
 case I =>
  intro cdv A outer s H E hr;have nd:=CF.nd;cases T
  walk_at "ds"
 case C =>
  clear T F t v;intro web h hw;obtain⟨n1,n2,n3⟩:=h.fx;have r:=G web (by omega) h.nd λp e=>⟨λz=>by have:=(h.rg p e).1;rw[z] at this;simp at this,by have:=h.len e;lia,λn L=>h.txt ((h.rg p e).2.2 n L).1⟩
  rw[yh,Ed,hA] at r;refine' cx rfl ?w
  case w =>
   show WS _ [.dat (.lst (web.map pairD)),.no,.no,.no,.no] _;refine aj (oM (ak (aP (ag rfl ao) (u web h hw)) rfl) (aq ?_));refine' aj (aJ (dz ao (qh _)) rfl (aq ?_));have sl:=A0 web;unfold kd;generalize fT web=c at *;refine' aj (d7 (λk Z=>∃g i b,Fr g/\Fr i/\Fr b/\Z=[.dat (.lst (web.map pairD)),.own (.lst ((c.take k).map λp=>.str (fO (p.1,aU p.2)))),g,i,b]) (cF (ak (aP (ag rfl ao) r) rfl)) ⟨_,_,_,.inl rfl,.inl rfl,.inl rfl,rfl⟩ ?st ?D)
   case D =>
    rintro _ ⟨g,i,b,_,_,_,rfl⟩;rw[a8,q0];exact aq (aj (bZ (v_res (kX (xs:=c) (λp=>fO (p.1,aU p.2)) (B:=200) rfl (by decide +kernel) n3 (by lia))) ⟨_,rfl⟩))
   case st =>
    rintro k x hx _ ⟨g,i,b,M,N,O,rfl⟩;rw[cn] at hx;obtain⟨p,ep,rfl⟩:=g0.mp hx;have e:=eK ep;obtain⟨a1,a2,a3,Q⟩:=n2 p e;have R:=n3 p e;have hk:=(bc.mp ep).1;rw[gJ ep,f'];have m:((c.take k).map λp=>Dat.str (fO (p.1,aU p.2))).length < sizeLine:=by
     rw[a8,gg];unfold bg
     lia
    generalize (c.take k).map (λp=>Dat.str (fO (p.1,aU p.2)))=a at *
    refine⟨[.dat (.lst (web.map pairD)),.own (.lst a),.dat (.str p.1),.dat (.lst ((aU p.2).map .str)),b],by rcases M with rfl | ⟨d,rfl⟩ <;> rcases N with rfl | ⟨d,rfl⟩ <;> rfl,?_⟩
    generalize o:j5 (ec " ") (aU p.2)=J;have S:jA (ec " ") (dF 3) [.dat (.lst (web.map pairD)),.own (.lst a),.dat (.str p.1),.dat (.lst ((aU p.2).map .str)),b]=some (.str J,[.dat (.lst (web.map pairD)),.own (.lst a),.dat (.str p.1),.dat (.lst ((aU p.2).map .str)),b]):=by
     have:=kX (f:=dF 3) (Z:=[.dat (.lst (web.map pairD)),.own (.lst a),.dat (.str p.1),.dat (.lst ((aU p.2).map .str)),b]) (sep:=ec " ") (xs:=aU p.2) (λx=>x) (B:=8) rfl (by decide +kernel) Q (by lia)
     rw[s9,o] at this;exact this
    refine' aj (aJ (Z2:=[.dat (.lst (web.map pairD)),.own (.lst a),.dat (.str p.1),.dat (.lst ((aU p.2).map .str)),.dat (.str J)]) (v_res S) ?U (aq ?V))
    case U=>rcases O with rfl | ⟨d,rfl⟩ <;> rfl
    case V =>
     refine aj ⟨_,kG (pO (d:=.str (fO (p.1,aU p.2))) rfl (ag ?_ ao) m),aq (bf ⟨.dat (.str p.1),.dat (.lst ((aU p.2).map .str)),.dat (.str J),.inr ⟨_,rfl⟩,.inr ⟨_,rfl⟩,.inr ⟨_,rfl⟩,rfl⟩)⟩;have W:(n4++p.1++ec ": " ++ J).length<=200:=by rw[<- o];exact R
     have X:=W;rw[ir,ir,ir] at X;unfold qA;rw[wX (y:=p.1) (Z1:=[.dat (.lst (web.map pairD)),.own (.lst a),.dat (.str p.1),.dat (.lst ((aU p.2).map .str)),.dat (.str J)]) rfl (by unfold bg;lia) (by rw[ir];unfold bg;omega),oJ (by rw[ir,ir];unfold bg;omega),wX (y:=J) (Z1:=[.dat (.lst (web.map pairD)),.own (.lst a),.dat (.str p.1),.dat (.lst ((aU p.2).map .str)),.dat (.str J)]) rfl (by unfold bg;lia) (by unfold bg;omega)]
     show (kQ (n4++p.1++ec ": " ++ J) _).map _=_;unfold kQ;rw[if_pos (by unfold bg;omega),<- o]
     rfl
def Fd (a:1<=web.length/\web.length<=8)(nd:(web.map (·.1)).Nodup):lD [.lst (web.map pairD)]=some (.own (.lst ((fT web).map pairD))):=by
 obtain⟨p,r,rfl⟩:=Uk (ka.mp a.1);show gI [.lst ((p::r).map pairD)]=_;show (firstsD ((p::r).map pairD)).bind _=_;rw[AB];show (if ((p::r).map (·.1)).Nodup/\((p::r).map pairD).length < 64 then _ else none)=_
 rw[if_pos ⟨nd,by rw[a8];lia⟩,yh]
def L9 (T:Txt mg)(o:bw P w K mg base "_law_begun" 1 (aF K b))(q:r8 b)(F:L2.bA K "_law_web_text" "_law_web_text" wj f g):∃fn,aV P w K mg base aX 2 f g ["_law_web_here"] (aF K fn)/\rh fn:=by
 refine' ck F C5 (n:=1) rfl ?D ?C
 case D =>
  intro cdv A outer s H E hr;have nd:=C5.nd;cases T
  walk_at "ds"
 case C =>
  clear T F o;intro web h hw;obtain⟨n1,n2,n3⟩:=h.fx;have t:=Fd h.bL h.nd;have sl:=A0 web;have ae:∀p∈fT web,b [.lst (p.2.map .str)]=some (.own (.lst ((aU p.2).map .str))):=λp a=>by
   have a:=xf.mp a;have r:=h.rg p a;exact q p.2 (λz=>by rw[z] at r;simp at r) (by have:=h.len a;lia) λn c=>h.txt (r.2.2 n c).1
  unfold kd;generalize fT web=d at *;have i:(ec "\n").length<=16:=by decide +kernel
  have j:(ec "").length<=16:=by decide +kernel
  refine' cx rfl ?w
  case w =>
   show WS _ [.dat (.lst (web.map pairD))] _;refine aj ?_;refine' bZ (r:=.dat (.str (j5 (ec "\n") (d.map λp=>fO (p.1,aU p.2))))) (Z1:=[.dat (.lst (web.map pairD))]) ?G ?I
   case I=>exact gH ⟨_,rfl⟩
   case G =>
    refine v_res ?_;refine' kX (xs:=d) (λp=>fO (p.1,aU p.2)) (B:=200) ?Q i n3 ?J
    case J=>omega
    refine rB ?_;refine' (fY (enc:=pairD) (xs:=d) (λp=>[.no,.dat (.str p.1),.dat (.lst (p.2.map .str))]) (λp=>Dat.str (fO (p.1,aU p.2))) (cF (ak (aP (ag rfl ao) t) rfl)) rfl ?L ?M ?N ?O)
    case L=>unfold bg;omega
    case M=>intro y e Z hd;rcases hd with rfl | ⟨z,rfl⟩ <;> rfl
    case O=>intro y e;rfl
    case N =>
     intro p a;obtain⟨a1,u,a3,v⟩:=n2 p a;have k:=n3 p a;have x:=JA (p:=(p.1,aU p.2)) u;have l:∀n∈aU p.2,(ec " " ++ n).length<=9:=λn c=>by
      rw[ir,show (ec " ").length=1 from by decide +kernel]
      have:=v n c
      lia
     rw[<- x] at k ⊢;have m:=k;rw[ir,ir] at m;dsimp only at m;refine ak (au (ak (au rfl rfl (m6 ?_)) rfl) (kX (xs:=aU p.2) (λn=>ec " " ++ n) (B:=9) (ak (fY (enc:=Dat.str) (xs:=aU p.2) (λn=>[.no,.dat (.str n)]) (λn=>.str (ec " " ++ n)) (cF (ak (aP (ag rfl ao) (ae p a)) rfl)) rfl ?_ ?_ ?_ ?_) rfl) j l (by lia)) (m6 ?_)) rfl
     ·unfold bg;omega
     ·unfold bg;lia
     ·intro y e Z hd;rcases hd with rfl | ⟨z,rfl⟩ <;> rfl
     ·intro n c;have:=l n c;rw[ir] at this;exact ak (au rfl rfl (m6 (by unfold bg;lia))) rfl
     ·intro y e;rfl
     ·rw[ir];unfold bg;omega
noncomputable def num (i:Int):Str:=ec (toString i)
noncomputable def jf (rs:Fl):Fl:=rs.mergeSort λx y=>bX x.1 y.1
noncomputable def fh (x:eT×Hs.Ob):Str:=n4++x.1++ec " " ++ num x.2.l++ec " " ++ num x.2.b++ec " " ++ num x.2.r++ec " " ++ num x.2.t
noncomputable def mq (rs:Fl):Str:=j5 (ec "\n") ((jf rs).map fh)
def va:x∈jf rs ↔ x∈rs:=(gp _ _).mem_iff
def yk (c:(rs.map (·.1)).Nodup)(hl:rs.length<=8)(d:rs≠[]):lD [aH rs]=some (.own (aH (jf rs))):=by
 have e:∀rs:Fl,firstsD (rs.map aG)=some (rs.map (·.1)):=λrs=>by
  induction rs with
  | nil=>rfl
  | cons x rs g =>
   show (jG (aG x)).bind (λy=>(firstsD (rs.map aG)).map (y::·))=_
   rw[g];rfl
 obtain⟨x,r,rfl⟩:=Uk d;show (firstsD ((x::r).map aG)).bind _=_;rw[e];show (if ((x::r).map (·.1)).Nodup/\((x::r).map aG).length < 64 then _ else none)=_
 rw[if_pos ⟨c,by rw[a8];lia⟩]
 dsimp only[aH,jf];rw[ri (r:=λx y:eT×Hs.Ob=>bX x.1 y.1) (s:=dw) (f:=aG) (λa _ b _=>rfl)]
 rfl
def N7 (x):j5 (ec " ") [x.1,num x.2.l,num x.2.b,num x.2.r,num x.2.t]=fh x:=by
 rw[join_eq];apply CT;unfold fh;simp only[TM,gf,mu];rfl
noncomputable def mE (x:eT×Hs.Ob):Prop:=x.1.length<=8/\∀i∈[x.2.l,x.2.b,x.2.r,x.2.t],(num i).length<=30/\i.natAbs.log2 < 1920
def G8 (h0:0<=i)(h:i<=2 ^ 90):(num i).length<=30/\i.natAbs.log2 < 1920:=by
 constructor
 ·have:=int_text_length_le10 (a:=i) (k:=29) (by decide) (by omega)
  unfold num;rw[PySem.ofString_length];exact this
 ·by_cases z:i.natAbs=0
  ·rw[z];decide
  ·exact hQ ((W8 z).mpr (show i.natAbs < 2 ^ 91 by omega)) (by decide)
def vx (h:mE x):(fh x).length<=200:=by
 have:=h.1;have h1:=(h.2 x.2.l (by simp)).1
 have h2:=(h.2 x.2.b (by simp)).1
 have h3:=(h.2 x.2.r (by simp)).1
 have h4:=(h.2 x.2.t (by simp)).1
 unfold fh;simp only[ir];rw[show (ec " ").length=1 from by decide +kernel,show Str.empty.length=0 from rfl]
 lia
noncomputable def qP (fn:aQ):Prop:=∀rs:Fl,bC rs->(∀x∈rs,mE x)->fn [aH rs]=some (.dat (.str (mq rs)))
def sf (h:f Z=some (.int i,Z1))(a:i.natAbs.log2 < 1920)(b:(out++num i).length<=bg):iS f F out Z=F (out++num i) Z1:=by
 unfold iS;rw[h];show (if i.natAbs.log2 < 1920 then some (toString i:eT) else none).bind _=_
 rw[if_pos a];exact if_pos b
def Gx (h:f Z=some (.lst (ls.map .str),Z1))(a:sep.length<=16)(b:∀x∈ls,x.length<=B)(c:ls.length * B + ls.length<=1048576):jA sep f Z=some (.str (j5 sep ls),Z1):=by
 have:=kX (λx:eT=>x) h a b c
 rw[s9] at this;exact this
noncomputable def kf (x:eT×Hs.Ob):DS:=[.no,.dat (.str x.1),.dat (.int x.2.l),.dat (.int x.2.b),.dat (.int x.2.r),.dat (.int x.2.t)]
def Oa (h:mE x):qA (iS (dF 1) (lK (ec " ") (iS (dF 2) (lK (ec " ") (iS (dF 3) (lK (ec " ") (iS (dF 4) (lK (ec " ") (iS (dF 5) kQ))))))))) (kf x)=some (.str (fh x),kf x):=by
 have d:=vx h;obtain⟨h0,a⟩:=h;have e:=(a x.2.l (by simp)).2
 have f:=(a x.2.b (by simp)).2
 have g3:=(a x.2.r (by simp)).2
 have g:=(a x.2.t (by simp)).2
 have c:=d;unfold fh at c;simp only[ir] at c;unfold qA;rw[wX (y:=x.1) (Z1:=kf x) rfl (by unfold bg;lia) (by simp only[ir];unfold bg;omega),oJ (by simp only[ir];unfold bg;omega),sf (i:=x.2.l) (Z1:=kf x) rfl e (by simp only[ir];unfold bg;omega),oJ (by simp only[ir];unfold bg;omega),
  sf (i:=x.2.b) (Z1:=kf x) rfl f (by simp only[ir];unfold bg;omega),oJ (by simp only[ir];unfold bg;omega),sf (i:=x.2.r) (Z1:=kf x) rfl g3 (by simp only[ir];unfold bg;omega),oJ (by simp only[ir];unfold bg;omega),
  sf (i:=x.2.t) (Z1:=kf x) rfl g (by simp only[ir];unfold bg;omega)]
 show (kQ (fh x) _).map _=_;unfold kQ;rw[if_pos (by unfold bg;lia)]
 rfl
def LV (T:Txt mg)(F:L2.bA K "show_floor" "show_floor" vy f d):∃fn,aV P w K mg base aX 1 f d ["floor"] (aF K fn)/\qP fn:=by
 refine' ck F CB (n:=1) rfl ?D ?C
 case D =>
  intro cdv A outer s H E hr;have nd:=CB.nd;cases T
  walk_at "ds"
 case C =>
  clear T F;intro rs b h;have bL:=b.bL;have e:∀x∈jf rs,mE x:=λx hx=>h x (va.mp hx)
  have hsl:(jf rs).length=rs.length:=(gp rs _).length_eq;have i:=yk b.nd bL b.ne;have g:(ec "\n").length<=16:=by decide +kernel
  unfold mq;generalize jf rs=a at *;refine' cx rfl ?w
  case w =>
   show WS _ [.dat (aH rs)] _;refine aj ?_;refine' bZ (r:=.dat (.str (j5 (ec "\n") (a.map fh)))) (Z1:=[.dat (aH rs)]) ?G ?I
   case I=>exact gH ⟨_,rfl⟩
   case G =>
    refine v_res ?_;refine' kX (xs:=a) fh (B:=200) ?Q g (λx hx=>vx (e x hx)) ?J
    case J=>lia
    refine rB ?_;refine' fY (enc:=aG) (xs:=a) kf (λx=>Dat.str (fh x)) (cF (ak (aP (ag rfl ao) i) rfl)) rfl ?L ?M ?N ?O
    case L=>unfold bg;lia
    case M=>intro y c Z hd;rcases hd with rfl | ⟨z,rfl⟩ <;> rfl
    case N=>intro y c;exact Oa (e y c)
    case O=>intro y c;rfl
def MO (T:Txt mg)(F:L2.bA K "_law_floor_text" "_law_floor_text" ux f g):∃fn,aV P w K mg base aX 1 f g ["_law_rows_here"] (aF K fn)/\qP fn:=by
 refine' ck F xA (n:=1) rfl ?C ?D
 case C =>
  intro cdv A outer s H E hr;have nd:=xA.nd;cases T
  walk_at "ds"
 case D =>
  clear T F;intro rs e m;have bL:=e.bL;have h:∀x∈jf rs,mE x:=λx hx=>m x (va.mp hx)
  have hsl:(jf rs).length=rs.length:=(gp rs _).length_eq;have o:=yk e.nd bL e.ne;have j:(ec "\n").length<=16:=by decide +kernel
  have k:(ec " ").length<=16:=by decide +kernel
  unfold mq;generalize jf rs=c at *;refine' cx rfl ?w
  case w =>
   show WS _ [.dat (aH rs)] _;refine aj ?_;refine' bZ (r:=.dat (.str (j5 (ec "\n") (c.map fh)))) (Z1:=[.dat (aH rs)]) ?G ?I
   case I=>exact gH ⟨_,rfl⟩
   case G =>
    refine v_res ?_;refine' kX (xs:=c) fh (B:=200) ?W j (λx hx=>vx (h x hx)) ?J
    case J=>lia
    refine rB ?_;refine' fY (enc:=aG) (xs:=c) (λx=>[.no,.dat (aG x)]) (λx=>Dat.str (fh x)) (cF (ak (aP (ag rfl ao) o) rfl)) rfl ?L ?M ?N ?O
    case L=>unfold bg;lia
    case M=>intro y a Z hd;rcases hd with rfl | ⟨z,rfl⟩ <;> rfl
    case O=>intro y a;rfl
    case N =>
     intro x hx;obtain⟨n1,n2⟩:=h x hx;rw[<- N7];have C:∀i∈[x.2.l,x.2.b,x.2.r,x.2.t],rD [.int i]=some (.dat (.str (num i))):=λi d=>if_pos (n2 i d).2
     have p:∀y∈[x.1,num x.2.l,num x.2.b,num x.2.r,num x.2.t],y.length<=30:=λy a=>by
      rcases cR.mp a with rfl | a
      ·lia
      ·obtain⟨i,d,rfl⟩:=a9.mp (show y∈[x.2.l,x.2.b,x.2.r,x.2.t].map num from a)
       exact (n2 i d).1
     refine Gx (ls:=[x.1,num x.2.l,num x.2.b,num x.2.r,num x.2.t]) (B:=30) ?_ k p (by simp)
     refine rB ?_;refine' au (r:=.own (.lst ([x.1,num x.2.l,num x.2.b,num x.2.r,num x.2.t].map .str))) (ak (dz (ag (eO rfl rfl rfl rfl) ao) (by show 1<=bg;unfold bg;decide)) rfl) (ak (fY (enc:=Dat.int) (xs:=[x.2.l,x.2.b,x.2.r,x.2.t]) (λi=>[.no,.dat (.int i)]) (λi=>Dat.str (num i)) (Bb (ak (ji rfl rfl (r:=.dat (.tup [.int x.2.l,.int x.2.b,.int x.2.r,.int x.2.t])) rfl) rfl)) rfl ?Q ?R ?S ?U) rfl) (dW ?V)
     case Q=>show 4<=bg;unfold bg;decide
     case R=>intro y a Z hd;rcases hd with rfl | ⟨z,rfl⟩ <;> rfl
     case S=>intro i d;exact ak (aP (ag rfl ao) (C i d)) rfl
     case U=>intro y a;rfl
     case V=>show 1 + 4<=bg;unfold bg;decide
end
end bW
namespace bW
open PySem.NumText
section
variable {P:hJ}{w:kq}{K:gj}{mg:eT->Option b8}{base:m3}
noncomputable def fu (x:eT):Prop:=∀c∈x.cps.toList,c < 128
def fu.ok (h:fu x):pe x=true:=BK (by
 rw[z7];intro a b;exact decide_eq_true (h a (Th.mpr b)))
def tY (h:aZ x):fu x:=by
 intro c a;have:=(z7 ..).mp h.lQ c (Th.mp a);simpa using this
def fy (h:fu x)(h':fu y):fu (x++y):=by
 intro c a;rw[gf] at a;exact (ee.mp a).elim (h c) (h' c)
theorem qd (a:fu s):∀{b:List eT},(∀p∈b,fu p)->fu (TM s b)
 | [],_=>λc d=>(by cases d)
 | [p],h=>h p eH
 | p::q::r,h=>fy (fy (h p eH) a) (qd a λx hx=>h x (ew _ hx))
def lH (h:x.cps.all (· < 128)=true):fu x:=by
 intro c a;have:=(z7 ..).mp h c (Th.mp a);simpa using this
def GB (h:cj web):fu (kd web):=by
 unfold kd;rw[join_eq];refine qd (lH (by decide +kernel)) λt b=>?_
 obtain⟨p,a,rfl⟩:=a9.mp b;have a:=xf.mp a;unfold fO;rw[join_eq];exact fy (fy (fy (lH (by decide +kernel)) (tY (je (h.nm p a)))) (lH (by decide +kernel))) (qd (lH (by decide +kernel)) λn c=>tY (h.txt ((h.rg p a).2.2 n (Ag.mp c)).1))
def p6 (h:0<=i):fu (num i):=by
 obtain⟨m,rfl⟩:=Int.eq_ofNat_of_zero_le h;intro c a;have a:c∈(Nat.toDigits 10 m).map Char.toNat:=by rw[<- W.KIN.signs_num m];exact a
 obtain⟨ch,b,rfl⟩:=a9.mp a;have:=Y3 (Nat.isDigit_of_mem_toDigits (by decide) (by decide) b)
 lia
def Gs (F:bC rs):fu (mq rs):=by
 unfold mq;rw[join_eq];have bl:fu (ec " "):=lH (by decide +kernel)
 refine qd (lH (by decide +kernel)) λt a=>?_
 obtain⟨x,hx,rfl⟩:=a9.mp a;have hx:=va.mp hx;have r:=F.row x hx;unfold fh;exact fy (fy (fy (fy (fy (fy (fy (fy (fy (lH (by decide +kernel)) (tY (je (F.nm x hx)))) bl) (p6 r.1)) bl) (p6 r.2.2.1)) bl) (p6 (by omega))) bl) (p6 (by omega))
def ne_self (h:fu t):dP true (.str t) (.str t)=some (.dat (.bl false)):=by
 rw[mK (fK h.ok) (fK h.ok),ig];simp
theorem ya:∀l:List (eT×List eT),gu (l.map pairD) (l.map pairD)=true
 | []=>rfl
 | p::l=>by
  show (cw (pairD p) (pairD p) && gu (l.map pairD) (l.map pairD))=true;simp only[ya l,UC];show cw (.tup _) (.tup _)=true;rw[nX];show (cw (.str p.1) (.str p.1) && (cw (.lst (p.2.map .str)) (.lst (p.2.map .str)) && true))=true;simp only[kZ,tG,ig];simp
noncomputable def uh:Dat->Bool
 | .tup ds=>ds.all iA
 | _=>false
theorem J' (h:uh d=true):fB d=true/\(toPy d).canLay0=true/\(toPy d).depth<=2:=by
 cases d with
 | tup ds =>
  obtain⟨a,b,c⟩:=@nU 1 iA (λd h=>vw h) ds h
  exact⟨by simp only[fB];exact a,by simp only[toPy,ub];exact b,by simp only[toPy,PyData.depth];lia⟩
 | _=>cases h
def MN {l:List (eT×List eT)}(h:∀p∈l,aZ p.1/\∀n∈p.2,aZ n):bB (.lst (l.map pairD))=true:=by
 have key:(l.map pairD).all uh=true:=by
  rw[j4];intro d hd;obtain⟨p,e,rfl⟩:=a9.mp hd;obtain⟨f,g⟩:=h p e;show [Dat.str p.1,.lst (p.2.map .str)].all iA=true;have i:iA (.str p.1)=true:=f.ok;have j:iA (.lst (p.2.map .str))=true:=by
   show (p.2.map Dat.str).all eh=true;rw[j4];intro d hd;obtain⟨n,k,rfl⟩:=a9.mp hd;exact (g n k).ok
  simp only[UA,UA,i,j];rfl
 obtain⟨a,b,c⟩:=@nU 2 uh (λd h=>J' h) _ key
 dsimp only[bB,Wp];simp only[fB,toPy,ub,PyData.depth,a,b];simp
 lia
noncomputable def Fo (s:DV.Slot):Prop:=∀c,s≠.io c
theorem lZ (h:Fo t)(e:Z[i]? = some t:=by rfl)(a:Z.set i (iZ r)=Z2:=by rfl):gw i r Z=some Z2:=by
 unfold gw;rw[e,<- a];cases t with
 | io c=>exact absurd rfl (h c)
 | _=>rfl
noncomputable def Ba (fn:aQ):Prop:=∀a:List Int,a.length<=63->fn [.cU a]=some (.dat (.bl true))
def Mf (T:Txt mg) (M:j7 mg)(W:bw P w K mg base "show_web" 5 (aF K v))(X:rh v)(Y:bw P w K mg base "_law_web_text" 2 (aF K B))(s2:rh B)(q3:bw P w K mg base "show_floor" 1 (aF K C))(s3:qP C)(q4:bw P w K mg base "_law_floor_text" 1 (aF K D))(s4:qP D)(q5:bw P w K mg base "_law_rows" 4 (cV K 0 G))(s5:vd G)(q6:bw P w K mg base "_law_any_web" 5 (cV K 0 I))(s6:B' I)(q7:bw P w K mg base "_law_purse" 1 (aF K l7))(F:L2.bA K "law" "law" sI f N):∃fn,aV P w K mg base aX 6 f N ["_law_script"] (aF K fn)/\Ba fn:=by
 refine' ck F Bp (n:=1) rfl ?hb ?J
 case hb =>
  intro cdv A outer s H E hr;have nd:=Bp.nd;cases T;cases M
  walk_at "ds"
 case J =>
  clear T M F W Y q3 q4 q5 q6 q7;intro a hns;refine' cx rfl ?w
  case w =>
   show WS _ [.dat (.cU a),.no,.no,.no,.no,.no,.no] _;have e:∀d,Fo (.dat d):=λd c h=>by cases h
   have O:∀d,Fo (.own d):=λd c h=>by cases h
   refine' aj (d7 (ds:=[.int 0,.int 5,.int 11]++(cutD a none (some 10)).map Dat.int) (λk Z=>∃q o m j g b:DV.Slot,Fo q/\Fo o/\Fo m/\Fo j/\Fo g/\Fo b/\Z=[.dat (.cU a),q,o,m,j,g,b]) ?i ?h0 ?st ?Q)
   case i=>exact cF (ak (au (ak (dz (ag rfl (ag rfl (ag rfl ao))) (by show 3<=bg;unfold bg;decide)) rfl) (ak (iD rfl rfl rfl) rfl) (dW (by
    simp only[a8,show cutD a none (some 10)=a.take 10 from mm a 10,gg]
    unfold bg;show 3 + _<=_
    lia))) rfl)
   case h0 =>
    have n:Fo DV.Slot.no:=λ_ h=>by cases h
    exact⟨.no,.no,.no,.no,.no,.no,n,n,n,n,n,n,rfl⟩
   case Q =>
    rintro _ ⟨q,o,m,j,g,b,_,_,_,_,_,_,rfl⟩;exact aq (aj (bZ rfl ⟨_,rfl⟩))
   case st =>
    rintro k y R Z ⟨q,o,m,j,g,b,f1,f2,f3,f4,f5,f6,rfl⟩;obtain⟨c,rfl⟩:∃c,y=.int c:=by
     have hm:=eK R
     rcases ee.mp hm with h | h
     ·simp only[cR,fm,or_false] at h
      rcases h with rfl | rfl | rfl <;> exact⟨_,rfl⟩
     ·obtain⟨c,_,rfl⟩:=a9.mp h;exact⟨c,rfl⟩
    refine⟨[.dat (.cU a),.dat (.int c),o,m,j,g,b],lZ f1 rfl,?_⟩;obtain⟨p,ep⟩:∃p:Int×Int,l7 [.int c]=some (.own (pD p)):=⟨(_,_),rfl⟩;obtain⟨_,_,e6,web,t,rfl,rfl,h,hw⟩:=s6 p;obtain⟨_,_,e5,rs,L,rfl,rfl,F,ok,sm⟩:=s5 t 8 (by decide) (by decide)
    have bL:=h.bL;have sz:web.length<=sizeLine:=by unfold bg;lia
    have nu:∀x∈rs,mE x:=λx hx=>by
     have r:=F.row x hx;have s:=sm x hx;have nm:=F.nm x hx;unfold dq at nm;simp only[dV,decide_eq_true_eq] at nm;refine⟨by lia,λi S=>?_⟩
     simp only[cR,fm,or_false] at S
     rcases S with rfl | rfl | rfl | rfl <;> exact G8 (by lia) (by lia)
    have U:=MN (l:=web) λp u=>⟨je (h.nm p u),λn hn=>h.txt ((h.rg p u).2.2 n hn).1⟩
    have nW:dP true (.lst (web.map pairD)) (.lst (web.map pairD))=some (.dat (.bl false)):=by rw[mK U U,kZ,ya];rfl
    have V:=ED (rs:=rs) λx hx=>je (F.nm x hx)
    have nR:dP true (aH rs) (aH rs)=some (.dat (.bl false)):=by rw[mK V V];unfold aH;rw[kZ,ET];rfl
    refine' aj (aJ (Z2:=[.dat (.cU a),.dat (.int c),.own (pD p),m,j,g,b]) (aP (ag rfl ao) ep) (lZ f2 rfl) (aq ?_));refine' aj (aJ (Z2:=[.dat (.cU a),.dat (.int c),.own (pD t),.own (.lst (web.map pairD)),j,g,b]) (cZ rfl ao rfl e6 rfl) (lZ f3 rfl) (aq ?_));refine' aj (aJ (Z2:=[.dat (.cU a),.dat (.int c),.own (pD t),.dat (.lst (web.map pairD)),.own (.lst (web.map pairD)),g,b]) (fY (enc:=pairD) (xs:=web) (λp=>[.no,.dat (.str p.1),.dat (.lst (p.2.map .str))]) (λp=>pairD p) (cF rfl) rfl sz ?c4 ?c5 ?c6) (lZ f4 rfl) (aq ?c8))
    case c4=>intro y R Z hd;rcases hd with rfl | ⟨z,rfl⟩ <;> rfl
    case c5=>intro p u;exact il (ag rfl (ag (ak (aP (ag rfl ao) rfl) rfl) ao)) (by simp[bg])
    case c6=>intro p u;rfl
    case c8 =>
     refine' aj (aJ (Z2:=[.dat (.cU a),.dat (.int c),.own (pD t),.dat (.lst (web.map pairD)),.dat (.lst (web.map pairD)),.dat (.str (kd web)),b]) (aP (ag rfl ao) (X web h hw)) (lZ f5 rfl) (aq ?_));refine dD (ng (lj (fV (rT rfl rfl) rfl)) (ng (bq (au rfl (ak (aP (ag rfl ao) (s2 web h hw)) rfl) (ne_self (GB h)))) (bq (au rfl rfl nW)))) rfl ?_;refine' aj (aJ (Z2:=[.dat (.cU a),.dat (.int c),.own (pD L),.dat (.lst (web.map pairD)),.dat (.lst (web.map pairD)),.dat (.str (kd web)),.own (aH rs)]) (cZ rfl (ag rfl ao) rfl e5 rfl) (lZ f6 rfl) (aq ?_));refine' aj (aJ (Z2:=[.dat (.cU a),.dat (.int c),.own (pD L),.dat (.lst (web.map pairD)),.own (aH rs),.dat (.str (kd web)),.dat (aH rs)]) (aP (ag rfl ao) rfl) rfl (aq ?_));refine' aj (aJ (Z2:=[.dat (.cU a),.dat (.int c),.own (pD L),.dat (.lst (web.map pairD)),.dat (aH rs),.dat (.str (mq rs)),.dat (aH rs)]) (aP (ag rfl ao) (s3 rs F nu)) rfl (aq ?_));refine dD (ng (lj (fV (rT rfl rfl) rfl)) (ng (bq (au rfl (ak (aP (ag rfl ao) (s4 rs F nu)) rfl) (ne_self (Gs F)))) (bq (au rfl rfl nR)))) rfl (bf ?_);exact⟨_,_,_,_,_,_,e _,O _,e _,e _,e _,e _,rfl⟩
end
end bW
namespace bW
open PySem PySem.Spec PyProof.Rows L2 DV
section
variable {P:Program}{w:World}{K:W.Frag}{mg:Str->Option Value}{base:Heap}
structure DI (K:W.Frag) (x:Str) (s:Stmt) (f:Addr):Prop where
 a:W.nsIn K mainGlobals x=some (some (.ref f))
 l:∃fd,L2.bA K x x s f fd
 k:W.keepIn K (.ref f)=true
def DI.ok {x:Str}{s:Stmt}{f:Addr}{e:FuncData}{c:List Str}{k:Nat}{sp:Sp}{h:Heap}(d:DI K x s f) (X:K.In h) (G:h.Ns mainGlobals mg) (F:L2.bA K x x s f e) (o:aV P w K mg base aX k f e c sp) (b:∀(kV i pm:Value) (l:Option Addr) (j ct:Value) (g:List Value),g.length=c.length->bindArgs (W.fnOf x x (pG s) (iO s) (aS s) .none kV i pm l j ct) ⟨g,[]⟩=pure (c.zip g)):bw P w K mg base x k sp:=⟨f,e,c,o,W.mg_of X G d.a,d.k,F.binds b⟩
def dg:∀{b:List c},b.length=1->∃a,b=[a]:=List.length_eq_one_iff.mp
theorem jj (h:c.length=2):∃a b,c=[a,b]:=by
 cases c with
 | nil=>cases h
 | cons a r=>obtain⟨b,rfl⟩:=dg (Nat.succ.inj h);exact⟨a,b,rfl⟩
theorem kJ (h:d.length=3):∃a b c,d=[a,b,c]:=by
 cases d with
 | nil=>cases h
 | cons a r=>obtain⟨b,c,rfl⟩:=jj (Nat.succ.inj h);exact⟨a,b,c,rfl⟩
theorem Eb (h:e.length=4):∃a b c d,e=[a,b,c,d]:=by
 cases e with
 | nil=>cases h
 | cons a r=>obtain⟨b,c,d,rfl⟩:=kJ (Nat.succ.inj h);exact⟨a,b,c,d,rfl⟩
noncomputable def qN (K:W.Frag):Sp:=λvs H Q _=>∃(a:Addr) (b:List Int),vs=[.ref a]/\cb K H a (b.map V.int)/\b.length<=63/\∀c,Q (.bl true) c
def N2 (s:Ba fn)(vs:List V)(H:Hp)(Q:VK)(E:XK)(h:qN K vs H Q E):aF K fn vs H Q E:=by
 obtain⟨a,b,rfl,c,d,k⟩:=h;refine⟨H,[.cU b],_,af.refl H,⟨.ref a,[],rfl,⟨a,rfl,c⟩,rfl⟩,s b d,?_⟩;rintro v e Hi2 _ _ _ _ f;cases (show v=.bl true from f)
 exact k e
end
def all_mk {l:W.OpenLaw}{w:World}{K:W.Frag}{h:Heap}{mg:Str->Option Value}{fa Qw Qx Qy Qz QA QB QC QD QE QF QG QH QI QJ QK QL QM QN QO QP QQ QR QS QT QU QV QW QX QY QZ Q0 Q1 Q2 Q3 Q4 Q5 Q6 Q7 Q8:Addr}{i:Addr}{t1 t2 t3 t4 t5 t6 t7:Tok}{nW:Nat}{Te:Array (Option Value)}(X:K.In h) (G:h.Ns mainGlobals mg) (Tf:mg "law"=some (.ref fa))
  (z:DI K "follower" vD Qw)
  (A:DI K "is_name" vo Qx)
  (B:DI K "is_pair" wZ Qy)
  (C:DI K "is_ring" wY Qz)
  (D:DI K "has_form" uX QA)
  (E:DI K "ties_are_shared" tP QB)
  (F:DI K "corners_of" tF QC)
  (I:DI K "corner_closes" vN QD)
  (J:DI K "corners_close" tH QE)
  (L:DI K "row_along" wy QF)
  (M:DI K "wall_has_row" vp QG)
  (N:DI K "has_one_of" xh QH)
  (O:DI K "all_reached" we QI)
  (Q:DI K "ties_of" uK QJ)
  (R:DI K "threes_of" vn QK)
  (S:DI K "must_web" uY QL)
  (U:DI K "begun_at_first" uI QM)
  (V:DI K "in_order" vI QN)
  (Y:DI K "show_web" vM QO)
  (Z:DI K "show_floor" vy QP)
  (be:DI K "_law_purse" tf QQ)
  (yq:DI K "_law_take" ue QR)
  (O4:DI K "_law_names" wa QS)
  (O5:DI K "_law_halved" uL QT)
  (O6:DI K "_law_whirled" tT QU)
  (O7:DI K "_law_cut_up" uP QV)
  (O8:DI K "_law_rows" sS QW)
  (O9:DI K "_law_over" uV QX)
  (O':DI K "_law_side" vB QY)
  (Pa:DI K "_law_ring" sD QZ)
  (Pb:DI K "_law_web" uS Q0)
  (Pc:DI K "_law_meeting" uM Q1)
  (Pd:DI K "_law_between" xk Q2)
  (Pe:DI K "_law_put_in" uk Q3)
  (Pf:DI K "_law_any_web" tR Q4)
  (Pg:DI K "_law_begun" uF Q5)
  (Ph:DI K "_law_web_text" wj Q6)
  (Pj:DI K "_law_floor_text" ux Q7)
  (Pk:DI K "law" sI Q8)
  (Ql:W.nsIn K mainGlobals "len"=some none)
  (Qm:W.nsIn K mainGlobals "int"=some none)
  (f:W.nsIn K mainGlobals "isinstance"=some none)
  (t:W.nsIn K mainGlobals "range"=some none)
  (Qn:W.nsIn K mainGlobals "min"=some none)
  (Qo:W.nsIn K mainGlobals "max"=some none)
  (Qp:W.nsIn K mainGlobals "all"=some none)
  (Pl:W.nsIn K mainGlobals "dict"=some none)
  (j:W.nsIn K mainGlobals "sorted"=some none)
  (y:W.nsIn K mainGlobals "tuple"=some none)
  (Pm:W.nsIn K mainGlobals "list"=some none)
  (Qq:W.nsIn K mainGlobals "str"=some none)
  (Pn:W.nsIn K mainGlobals "bool"=some none)
  (p:W.nsIn K mainGlobals "any"=some none)
  (Qr:W.nsIn K mainGlobals "sum"=some none)
  (q:W.nsIn K mainGlobals "set"=some none)
  (g:W.nsIn K mainGlobals "enumerate"=some none)
  (Qs:W.nsIn K mainGlobals "zip"=some none)
  (aW:W.nsIn K mainGlobals "WALLS"=some (some (.ref i)))
  (lW:K.lookup i=some ⟨.type "tuple",none,.seq #[.str "north" t1,.str "east" t2,.str "south" t3,.str "west" t4] nW,Te⟩)
  (aM:W.nsIn K mainGlobals "MOST_ROOMS"=some (some (.int 8 t5)))
  (aL:W.nsIn K mainGlobals "LONGEST_NAME"=some (some (.int 8 t6)))
  (aR:W.nsIn K mainGlobals "FEWEST_NEIGHBOURS"=some (some (.int 3 t7))) :
  ∃fd:FuncData,(∀(s:Shared) (v:Value),BindsTo s fd ⟨[v],[]⟩ [("_law_script",v)])/\∀base:Heap,K.In base->base.Ns mainGlobals mg->aV l.prog w K mg base aX 6 fa fd ["_law_script"] (qN K):=by
 have e:=Tf.symm.trans (W.mg_of X G Pk.a);cases e;have T:Txt mg:=⟨W.mg_none_of X G Ql,W.mg_none_of X G Qm,W.mg_none_of X G f,W.mg_none_of X G t,W.mg_none_of X G Qn,W.mg_none_of X G Qo,W.mg_none_of X G Qp,W.mg_none_of X G Pl,W.mg_none_of X G j,W.mg_none_of X G y,W.mg_none_of X G Pm,W.mg_none_of X G Qq,W.mg_none_of X G Pn⟩;have k:j7 mg:=⟨W.mg_none_of X G p,W.mg_none_of X G Qr,W.mg_none_of X G q,W.mg_none_of X G g⟩;obtain⟨fd_aa,Po⟩:=z.l;obtain⟨fd_ab,Pp⟩:=A.l;obtain⟨fd_ac,Pq⟩:=B.l;obtain⟨fd_ad,Pt⟩:=C.l;obtain⟨fd_ae,Pu⟩:=D.l;obtain⟨fd_af,Pw⟩:=E.l;obtain⟨fd_ag,Px⟩:=F.l;obtain⟨fd_ah,Py⟩:=I.l;obtain⟨fd_ai,Pz⟩:=J.l;obtain⟨fd_aj,PB⟩:=L.l;obtain⟨fd_ak,PC⟩:=M.l;obtain⟨fd_al,PD⟩:=N.l;obtain⟨fd_am,PH⟩:=O.l;obtain⟨fd_an,PJ⟩:=Q.l;obtain⟨fd_ao,PK⟩:=R.l;obtain⟨fd_ap,PL⟩:=S.l;obtain⟨fd_aq,PM⟩:=U.l;obtain⟨fd_ar,PN⟩:=V.l;obtain⟨fd_as,PQ⟩:=Y.l;obtain⟨fd_at,PR⟩:=Z.l;obtain⟨fd_au,PU⟩:=be.l;obtain⟨fd_av,PV⟩:=yq.l;obtain⟨fd_aw,PX⟩:=O4.l;obtain⟨fd_ax,PY⟩:=O5.l;obtain⟨fd_ay,PZ⟩:=O6.l;obtain⟨fd_az,P0⟩:=O7.l;obtain⟨fd_ba,P1⟩:=O8.l;obtain⟨fd_bb,P4⟩:=O9.l;obtain⟨fd_bc,P5⟩:=O'.l;obtain⟨fd_bd,P6⟩:=Pa.l;obtain⟨fd_be,P7⟩:=Pb.l;obtain⟨fd_bf,P8⟩:=Pc.l;obtain⟨fd_bg,P9⟩:=Pd.l;obtain⟨fd_bh,Qa⟩:=Pe.l;obtain⟨fd_bi,Qb⟩:=Pf.l;obtain⟨fd_bj,Qc⟩:=Pg.l;obtain⟨fd_bk,Qd⟩:=Ph.l;obtain⟨fd_bl,Qe⟩:=Pj.l;obtain⟨Qt,Qg⟩:=Pk.l;obtain⟨_,_,_,_,_,_,_,_,_,Tj,_,_⟩:=id Qg.ex;refine⟨Qt,λs v=>by rw[Tj];exact .of_eq rfl,λbase _ _=>?_⟩
 have d:=yq.ok (sp:=(cV K 0 fA)) X G PV (NM (P:=l.prog) (w:=w) (base:=base) T PV) λ_ _ _ _ _ _ c b=>(by obtain⟨u,v,rfl⟩:=jj b;rfl)
 have Q9:=be.ok (sp:=(aF K l7)) X G PU (LY (P:=l.prog) (w:=w) (base:=base) T PU) λ_ _ _ _ _ _ c b=>(by obtain⟨u,rfl⟩:=dg b;rfl)
 have m:fg K mg "WALLS" (.tup [.str "north",.str "east",.str "south",.str "west"]):=⟨.ref i,_,W.mg_of X G aW,rfl,λH=>⟨i,[.str "north",.str "east",.str "south",.str "west"],rfl,.inr ⟨_,_,_,lW,rfl,rfl,(by show 4<=sizeLine;unfold sizeLine;decide),.cons ⟨_,rfl⟩ (.cons ⟨_,rfl⟩ (.cons ⟨_,rfl⟩ (.cons ⟨_,rfl⟩ .nil)))⟩,⟨_,_,rfl,rfl,_,_,rfl,rfl,_,_,rfl,rfl,_,_,rfl,rfl,rfl⟩⟩⟩
 have gM:fg K mg "MOST_ROOMS" (.int 8):=⟨.int 8,_,W.mg_of X G aM,⟨_,rfl⟩,λH=>rfl⟩
 have gL:fg K mg "LONGEST_NAME" (.int 8):=⟨.int 8,_,W.mg_of X G aL,⟨_,rfl⟩,λH=>rfl⟩
 have gT:tM K mg "WALLS" CV:=⟨i,_,_,_,W.mg_of X G aW,lW,rfl,rfl,rfl,(by show 4<=sizeLine;unfold sizeLine;decide),.cons ⟨_,rfl⟩ (.cons ⟨_,rfl⟩ (.cons ⟨_,rfl⟩ (.cons ⟨_,rfl⟩ .nil)))⟩
 have gF:fg K mg "FEWEST_NEIGHBOURS" (.int 3):=⟨.int 3,_,W.mg_of X G aR,⟨_,rfl⟩,λH=>rfl⟩
 have Qu:=W.mg_none_of X G p;have r:=W.mg_none_of X G q;have Qv:=W.mg_none_of X G Qs;obtain⟨fn1,Ra,Rb⟩:=ES (P:=l.prog) (w:=w) (base:=base) T m gL Pp;have Rc:=A.ok X G Pp Ra λ_ _ _ _ _ _ c b=>(by obtain⟨u,rfl⟩:=dg b;rfl)
 obtain⟨fn2,Rf,Qh⟩:=Ll (P:=l.prog) (w:=w) (base:=base) T m gT Po;have Qi:=z.ok X G Po Rf λ_ _ _ _ _ _ c b=>(by obtain⟨u,rfl⟩:=dg b;rfl)
 obtain⟨fn3,Rg,Rh⟩:=DU (P:=l.prog) (w:=w) (base:=base) T Rc Rb Pq;have Ri:=B.ok X G Pq Rg λ_ _ _ _ _ _ c b=>(by obtain⟨u,rfl⟩:=dg b;rfl)
 obtain⟨fn4,Rj,Rk⟩:=MQ (P:=l.prog) (w:=w) (base:=base) T gF r Pt;have Rl:=C.ok X G Pt Rj λ_ _ _ _ _ _ c b=>(by obtain⟨u,v,w,rfl⟩:=kJ b;rfl)
 obtain⟨fn5,Rm,Rn⟩:=FL (P:=l.prog) (w:=w) (base:=base) T m gM r Ri Rh Rl Rk Pu;have Ro:=D.ok X G Pu Rm λ_ _ _ _ _ _ c b=>(by obtain⟨u,rfl⟩:=dg b;rfl)
 obtain⟨fn6,Rp,Rq⟩:=Hm (P:=l.prog) (w:=w) (base:=base) T Pw;have Rt:=E.ok X G Pw Rp λ_ _ _ _ _ _ c b=>(by obtain⟨u,rfl⟩:=dg b;rfl)
 obtain⟨fn7,Ru,n⟩:=HP (P:=l.prog) (w:=w) (base:=base) T Qv Px;have o:=F.ok X G Px Ru λ_ _ _ _ _ _ c b=>(by obtain⟨u,rfl⟩:=dg b;rfl)
 obtain⟨fn8,Rv,Rw⟩:=NT (P:=l.prog) (w:=w) (base:=base) T m Qi Qh Py;have Rx:=I.ok X G Py Rv λ_ _ _ _ _ _ c b=>(by obtain⟨u,v,rfl⟩:=jj b;rfl)
 obtain⟨fn9,Ry,Rz⟩:=Df (P:=l.prog) (w:=w) (base:=base) T o n Rx Rw Pz;have RA:=J.ok X G Pz Ry λ_ _ _ _ _ _ c b=>(by obtain⟨u,rfl⟩:=dg b;rfl)
 obtain⟨fn10,RB,RD⟩:=Jz (P:=l.prog) (w:=w) (base:=base) T PB;have RE:=L.ok X G PB RB λ_ _ _ _ _ _ c b=>(by obtain⟨u,v,w,rfl⟩:=kJ b;rfl)
 obtain⟨fn11,RF,RG⟩:=Jh (P:=l.prog) (w:=w) (base:=base) T o n Qi Qh RE RD PC;have RH:=M.ok X G PC RF λ_ _ _ _ _ _ c b=>(by obtain⟨u,v,rfl⟩:=jj b;rfl)
 obtain⟨fn12,RI,RJ⟩:=MW (P:=l.prog) (w:=w) (base:=base) T Qu PD;have RK:=N.ok X G PD RI λ_ _ _ _ _ _ c b=>(by obtain⟨u,v,rfl⟩:=jj b;rfl)
 obtain⟨fn13,RL,RM⟩:=KP (P:=l.prog) (w:=w) (base:=base) T m RK RJ PH;have RN:=O.ok X G PH RL λ_ _ _ _ _ _ c b=>(by obtain⟨u,rfl⟩:=dg b;rfl)
 obtain⟨fn14,RO,RP⟩:=Ho (P:=l.prog) (w:=w) (base:=base) T m PJ;have RQ:=Q.ok X G PJ RO λ_ _ _ _ _ _ c b=>(by obtain⟨u,rfl⟩:=dg b;rfl)
 obtain⟨fn15,RS,RT⟩:=LQ (P:=l.prog) (w:=w) (base:=base) T o n PK;have RU:=R.ok X G PK RS λ_ _ _ _ _ _ c b=>(by obtain⟨u,rfl⟩:=dg b;rfl)
 obtain⟨fn16,RV,RW⟩:=Jb (P:=l.prog) (w:=w) (base:=base) T m Ro Rn Rt Rq RA Rz RH RG RN RM RU RT RQ RP PL;have RX:=S.ok X G PL RV λ_ _ _ _ _ _ c b=>(by obtain⟨u,rfl⟩:=dg b;rfl)
 obtain⟨fn17,RY,RZ⟩:=Kl (P:=l.prog) (w:=w) (base:=base) T PM;have R0:=U.ok X G PM RY λ_ _ _ _ _ _ c b=>(by obtain⟨u,rfl⟩:=dg b;rfl)
 obtain⟨fn18,R1,R3⟩:=ML (P:=l.prog) (w:=w) (base:=base) T R0 RZ PN;have R4:=V.ok X G PN R1 λ_ _ _ _ _ _ c b=>(by obtain⟨u,rfl⟩:=dg b;rfl)
 obtain⟨fn19,R5,R6⟩:=NI (P:=l.prog) (w:=w) (base:=base) T RX RW R4 R3 PQ;have R7:=Y.ok X G PQ R5 λ_ _ _ _ _ _ c b=>(by obtain⟨u,rfl⟩:=dg b;rfl)
 obtain⟨fn20,R8,R9⟩:=LV (P:=l.prog) (w:=w) (base:=base) T PR;have R':=Z.ok X G PR R8 λ_ _ _ _ _ _ c b=>(by obtain⟨u,rfl⟩:=dg b;rfl)
 obtain⟨fn21,Sa,Sb⟩:=LJ (P:=l.prog) (w:=w) (base:=base) T d PX;have Sd:=O4.ok X G PX Sa λ_ _ _ _ _ _ c b=>(by obtain⟨u,rfl⟩:=dg b;rfl)
 obtain⟨fn22,Se,Sf⟩:=Ls (P:=l.prog) (w:=w) (base:=base) T PY;have Sg:=O5.ok X G PY Se λ_ _ _ _ _ _ c b=>(by obtain⟨u,v,w,rfl⟩:=kJ b;rfl)
 obtain⟨fn23,Sh,Si⟩:=Ha (P:=l.prog) (w:=w) (base:=base) T d PZ;have Sj:=O6.ok X G PZ Sh λ_ _ _ _ _ _ c b=>(by obtain⟨u,v,rfl⟩:=jj b;rfl)
 obtain⟨fn24,Sk,Sn⟩:=Em (P:=l.prog) (w:=w) (base:=base) T k d Sj Si Sg Sf P0;have So:=O7.ok X G P0 Sk λ_ _ _ _ _ _ c b=>(by obtain⟨u,v,rfl⟩:=jj b;rfl)
 obtain⟨fn25,Sr,Qj⟩:=MZ (P:=l.prog) (w:=w) (base:=base) T k d Sd Sb So Sn P1;have Qk:=O8.ok X G P1 Sr λ_ _ _ _ _ _ c b=>(by obtain⟨u,v,rfl⟩:=jj b;rfl)
 obtain⟨fn26,Ss,Su⟩:=K7 (P:=l.prog) (w:=w) (base:=base) T P4;have Sv:=O9.ok X G P4 Ss λ_ _ _ _ _ _ c b=>(by obtain⟨u,v,w,rfl⟩:=kJ b;rfl)
 obtain⟨fn27,Sw,Sx⟩:=E6 (P:=l.prog) (w:=w) (base:=base) T Sv Su P5;have Sy:=O'.ok X G P5 Sw λ_ _ _ _ _ _ c b=>(by obtain⟨u,v,w,rfl⟩:=kJ b;rfl)
 obtain⟨fn28,Sz,SA⟩:=LB (P:=l.prog) (w:=w) (base:=base) T k Sy Sx P6;have SD:=Pa.ok X G P6 Sz λ_ _ _ _ _ _ c b=>(by obtain⟨u,v,rfl⟩:=jj b;rfl)
 obtain⟨fn29,SE,SG⟩:=Iy (P:=l.prog) (w:=w) (base:=base) T k SD SA P7;have SH:=Pb.ok X G P7 SE λ_ _ _ _ _ _ c b=>(by obtain⟨u,rfl⟩:=dg b;rfl)
 obtain⟨fn30,SI,SJ⟩:=Fk (P:=l.prog) (w:=w) (base:=base) T k P8;have SK:=Pc.ok X G P8 SI λ_ _ _ _ _ _ c b=>(by obtain⟨u,rfl⟩:=dg b;rfl)
 obtain⟨fn31,SM,SN⟩:=Kf (P:=l.prog) (w:=w) (base:=base) T P9;have SO:=Pd.ok X G P9 SM λ_ _ _ _ _ _ c b=>(by obtain⟨u,v,w,x,rfl⟩:=Eb b;rfl)
 obtain⟨fn32,SQ,SS⟩:=D2 (P:=l.prog) (w:=w) (base:=base) T d SO SN Qa;have SU:=Pe.ok X G Qa SQ λ_ _ _ _ _ _ c b=>(by obtain⟨u,v,w,rfl⟩:=kJ b;rfl)
 obtain⟨fn33,SV,SW⟩:=N4 (P:=l.prog) (w:=w) (base:=base) T k d Qk Qj SK SJ SH SG SU SS Qb;have SX:=Pf.ok X G Qb SV λ_ _ _ _ _ _ c b=>(by obtain⟨u,rfl⟩:=dg b;rfl)
 obtain⟨fn34,SY,S6⟩:=GU (P:=l.prog) (w:=w) (base:=base) T Qc;have S7:=Pg.ok X G Qc SY λ_ _ _ _ _ _ c b=>(by obtain⟨u,rfl⟩:=dg b;rfl)
 obtain⟨fn35,S8,S9⟩:=L9 (P:=l.prog) (w:=w) (base:=base) T S7 S6 Qd;have Ta:=Ph.ok X G Qd S8 λ_ _ _ _ _ _ c b=>(by obtain⟨u,rfl⟩:=dg b;rfl)
 obtain⟨fn36,Tb,Tc⟩:=MO (P:=l.prog) (w:=w) (base:=base) T Qe;have Td:=Pj.ok X G Qe Tb λ_ _ _ _ _ _ c b=>(by obtain⟨u,rfl⟩:=dg b;rfl)
 obtain⟨fnL,oL,sL⟩:=Mf (P:=l.prog) (w:=w) (base:=base) T k R7 R6 Ta S9 R' R9 Td Tc Qk Qj SX SW Q9 Qg;exact oL.imp (N2 sL)
def walk {l:W.OpenLaw}{q:Program}{b:List Str}{i:(Str->Option Value)->Heap->Prop}{c:World->Heap->Prop}{d:DefRec}{K:Params->W.Frag}(j:l.most=some 63) (e:d.params.defaults=[])
  (m:∀(w:World) (h:Heap),c w h->(K w.params).In h)
  (F:∀(w:World) (mg:Str->Option Value) (fa:Addr) (h:Heap),(K w.params).In h->h.Ns mainGlobals mg->mg d.name=some (.ref fa) ->
   ∃g:FuncData,(∀(s:Shared) (u:Value),BindsTo s g ⟨[u],[]⟩ [("_law_script",u)])/\∀base:Heap,(K w.params).In base->base.Ns mainGlobals mg->aV l.prog w (K w.params) mg base aX 6 fa g ["_law_script"] (qN (K w.params))) :
  W.WalkO q b i c l.row.toRowW d [] (λf vs=>PySem.call f vs) :=
 L2.JF (n:=63) (k:=6) (x:="_law_script") (CX:=λ_=>aX) (sp:=λw=>qN (K w.params)) j (by decide) e ⟨rfl,by decide,by decide⟩ m F (λ_ _ a o p _ r=>⟨a,o,rfl,r,p,λ_=>rfl⟩) λ_ _ _ _ _ z=>z
end bW
end
open PySem PySem.W PyProof.Rows
local macro_rules | `(tactic| walk_at "df") => `(tactic| (refine' ⟨_, L2.Fn ?l ?c ?k⟩; (case l => k_is); (case c => k_is); (case k => k_is)))
local macro_rules | `(tactic| walk_at "di") => `(tactic| (refine' bW.DI.mk ?a ?b ?c; (case a => k_is); (case b => walk_at "df"); (case c => first | k_is | kit_is)))
namespace PySem.W.Fast
def tw6788549540488697055:True:=⟨⟩
def tw2170083340863466028:True:=⟨⟩
def tw8818072087383678714:True:=⟨⟩
def tw16842892925362682390:True:=⟨⟩
def tw13824603202331722237:True:=⟨⟩
def tw8547104399093274012:True:=⟨⟩
def tw9851835871408236761:True:=⟨⟩
def tw6305138101569228240:True:=⟨⟩
def tw7201689707800432258:True:=⟨⟩
def tw16562492603633517084:True:=⟨⟩
def tw17067161464734977043:True:=⟨⟩
def tw30873238976406863:True:=⟨⟩
def tw15658705794813796384:True:=⟨⟩
def tw12719717352703518024:True:=⟨⟩
def tw6465129225995064737:True:=⟨⟩
def tw1524755317828754443:True:=⟨⟩
def tw4987031260992279369:True:=⟨⟩
def tw8953622983822094252:True:=⟨⟩
def tw8564274088098829321:True:=⟨⟩
def tw18271059859220438799:True:=⟨⟩
def tw17622324052932076874:True:=⟨⟩
def tw14554422305650505956:True:=⟨⟩
def tw16546250580689807304:True:=⟨⟩
def tw10933512491749608216:True:=⟨⟩
def tw12996365854645674258:True:=⟨⟩
def tw12358707148775093769:True:=⟨⟩
def tw5076422708603484760:True:=⟨⟩
def tw5297567327548954199:True:=⟨⟩
def tw835667252301185547:True:=⟨⟩
def tw11947698592000177233:True:=⟨⟩
def tw7834940258659295001:True:=⟨⟩
def tw7752871317673862186:True:=⟨⟩
def tw2000471707156087259:True:=⟨⟩
def tw7524354884158823087:True:=⟨⟩
def tw7301019294388948566:True:=⟨⟩
def tw17059828668408026923:True:=⟨⟩
def tw8896145103355433703:True:=⟨⟩
def tw10951568829992710063:True:=⟨⟩
def tw15800253328680439652:True:=⟨⟩
def tw12175200583365425113:True:=⟨⟩
def tw5595911473179280772:True:=⟨⟩
def tw56686539199677252:True:=⟨⟩
def tw16911556581943069120:True:=⟨⟩
def tw5882857532938360482:True:=⟨⟩
def tw13975172894588468833:True:=⟨⟩
def tw4547928392335727364:True:=⟨⟩
def tw6941444463743732332:True:=⟨⟩
def tw10565765620193988763:True:=⟨⟩
def tw8426702784578135362:True:=⟨⟩
def tw12266840597255575660:True:=⟨⟩
def tw8145477227804188776:True:=⟨⟩
def tw9302107514224692591:True:=⟨⟩
def tw3563317613444677617:True:=⟨⟩
def tw16287975903216568644:True:=⟨⟩
def tw5794148477707970177:True:=⟨⟩
def tw10905349665267471828:True:=⟨⟩
def tw14108606502148016714:True:=⟨⟩
def tw10692311545850717931:True:=⟨⟩
def tw12745894046699694793:True:=⟨⟩
def tw7880884072694406669:True:=⟨⟩
def tw8079233637651010864:True:=⟨⟩
def tw7349180417077320229:True:=⟨⟩
def tw3461883988754239122:True:=⟨⟩
def tw9028144530032021904:True:=⟨⟩
def tw7163275098412273848:True:=⟨⟩
def tw15801138751774123586:True:=⟨⟩
def tw18413148819705475317:True:=⟨⟩
def tw9097666531013030972:True:=⟨⟩
def tw6176097848404848240:True:=⟨⟩
def tw10746439362518746858:True:=⟨⟩
def tw9645536620928094821:True:=⟨⟩
def tw5905986568962267234:True:=⟨⟩
def tw15402614150675409619:True:=⟨⟩
def tw5309260440535250260:True:=⟨⟩
def tw6945364897181591666:True:=⟨⟩
def tw1405661280821700892:True:=⟨⟩
def tw6499624095736917608:True:=⟨⟩
def tw195882572759925681:True:=⟨⟩
def tw12155387546118944025:True:=⟨⟩
def tw14919470695267809222:True:=⟨⟩
def tw10495644555321757662:True:=⟨⟩
def tw7265839157694080946:True:=⟨⟩
def tw11012991147102335235:True:=⟨⟩
def tw4677543608027106776:True:=⟨⟩
def tw15486418662472447533:True:=⟨⟩
def tw545949420216315661:True:=⟨⟩
def tw1775085886339043326:True:=⟨⟩
def tw9491485827152364282:True:=⟨⟩
def tw7626572329422120426:True:=⟨⟩
def tw8828071696317853067:True:=⟨⟩
def tw3607168744918245329:True:=⟨⟩
def tw3944329077934307123:True:=⟨⟩
def tw12849109191714014494:True:=⟨⟩
def tw6152931938188177395:True:=⟨⟩
def tw9589669150806917891:True:=⟨⟩
def tw10029150971784189662:True:=⟨⟩
def tw6413869212960583583:True:=⟨⟩
def tw11947911420705258767:True:=⟨⟩
def tw3863199025742974701:True:=⟨⟩
def tw7207166079762821856:True:=⟨⟩
def tw6845616195908300458:True:=⟨⟩
def tw4193923103744852936:True:=⟨⟩
def tw9847349282844811079:True:=⟨⟩
def tw5237594482235406258:True:=⟨⟩
def tw17179188220190811571:True:=⟨⟩
def tw17832574047837829697:True:=⟨⟩
def tw1787214489417517205:True:=⟨⟩
def tw1354407137796727812:True:=⟨⟩
def tw14452428871006409882:True:=⟨⟩
def tw17915348866218528948:True:=⟨⟩
def tw14016740500824246254:True:=⟨⟩
def tw18168421181637357211:True:=⟨⟩
def tw809276475490365179:True:=⟨⟩
def tw2470237520872538365:True:=⟨⟩
def tw15710699431532914890:True:=⟨⟩
def tw10285908359716139596:True:=⟨⟩
def tw15615192174791377054:True:=⟨⟩
def tw14887673795797761074:True:=⟨⟩
def tw16146944003969074984:True:=⟨⟩
def tw9144458019821402943:True:=⟨⟩
def tw11219934925554736241:True:=⟨⟩
def tw13594826830193586766:True:=⟨⟩
def tw9297360065831177016:True:=⟨⟩
def tw8324686862967732074:True:=⟨⟩
def tw8790107059699516948:True:=⟨⟩
def tw9313227117867498128:True:=⟨⟩
def tw1076949106655311860:True:=⟨⟩
def tw218672793104822434:True:=⟨⟩
def tw1106647356319665507:True:=⟨⟩
def tw14047470245487863401:True:=⟨⟩
def tw4787121324601674583:True:=⟨⟩
def tw17349007365817954307:True:=⟨⟩
def tw246771098922731678:True:=⟨⟩
def tw5017690037393938063:True:=⟨⟩
def tw16404997060052854405:True:=⟨⟩
def tw1470553680108759640:True:=⟨⟩
def tw16295318230352499493:True:=⟨⟩
def tw11193664424599848174:True:=⟨⟩
def tw2032758531326585790:True:=⟨⟩
def tw3347387858328820196:True:=⟨⟩
def tw2595878421188621941:True:=⟨⟩
def tw11528012062951147363:True:=⟨⟩
def tw5743520988622717879:True:=⟨⟩
def tw15584718896680854151:True:=⟨⟩
def tw16591263377127977734:True:=⟨⟩
def tw18245100200897381015:True:=⟨⟩
def tw3869605536864676784:True:=⟨⟩
def tw3972274071484688987:True:=⟨⟩
def tw13432628710584259800:True:=⟨⟩
def tw11588463099464298822:True:=⟨⟩
def tw13481322116583541259:True:=⟨⟩
def tw3585515776158502715:True:=⟨⟩
def tw13756030036666354405:True:=⟨⟩
def tw10364890146998542423:True:=⟨⟩
def tw8769780066952543362:True:=⟨⟩
def tw2179769596696742190:True:=⟨⟩
def tw15664098415991720428:True:=⟨⟩
def tw4048669670532252091:True:=⟨⟩
def tw16441591936000878122:True:=⟨⟩
def tw4848468302284676955:True:=⟨⟩
def tw10899331348278086331:True:=⟨⟩
def tw407270982047514872:True:=⟨⟩
def tw11808141901972751608:True:=⟨⟩
def tw13090801349081166235:True:=⟨⟩
def tw2227826149892030184:True:=⟨⟩
def tw4411644059180748883:True:=⟨⟩
def tw6841854054768028420:True:=⟨⟩
def tw14278301686657758409:True:=⟨⟩
def tw6104552344237370262:True:=⟨⟩
def tw11285721709076469043:True:=⟨⟩
def tw16224745102466759191:True:=⟨⟩
def tw13821192987966806934:True:=⟨⟩
def tw17278352304631174146:True:=⟨⟩
def tw339970471921784477:True:=⟨⟩
def tw14395444470094010015:True:=⟨⟩
end PySem.W.Fast
set_option maxRecDepth 100000 in
set_option maxHeartbeats 0 in
theorem PySem.Challenge.cw_roomtouch_k51_shown_holds : PySem.Challenge.rw_roomtouch_k51_shown.Holds := by
  w_on; o_law; k_head; (case hw => w_witness2)
  k_fill
  refine bW.walk (l := PySem.Challenge.rw_roomtouch_k51_shown) rfl rfl (fun w h Y => W.kIn_of Y) ?F
  case F =>
    intro w mg fa h b G a
    refine' bW.all_mk b G a ?_ ?_ ?_ ?_ ?_ ?_ ?_ ?_ ?_ ?_ ?_ ?_ ?_ ?_ ?_ ?_ ?_ ?_ ?_ ?_ ?_ ?_ ?_ ?_ ?_ ?_ ?_ ?_ ?_ ?_ ?_ ?_ ?_ ?_ ?_ ?_ ?_ ?_ ?_ ?_ ?_ ?_ ?_ ?_ ?_ ?_ ?_ ?_ ?_ ?_ ?_ ?_ ?_ ?_ ?_ ?_ ?_ ?_ ?_ ?_ ?_ ?_
    all_goals try first | k_is | kit_is | k_exc | kts_exm | walk_at "df" | walk_at "di"
