import PyProof.Rows.All
import Wide.All
import OpenK.AllK
import Wide.FinOn
import Lean
import PyProof.EqAt
import PyProof.EqKinds
import PyProof.TupleCall
import KE.KDictSum
import KE.KRevSl
import PyProof.DictWalks
import PyProof.EnumStmt
import PyProof.Rows.EnumRows
import PyProof.Rows.SetFrom
import PyProof.Rows.ZipGen
import PyProof.TupleOfSeq
import PyProof.ZipIter
import PySem.Challenge.RW_roomtouch_k03_threes_that_bar
set_option Elab.async false
set_option linter.all false
set_option compiler.extract_closed false
set_option maxRecDepth 100000
set_option genSizeOf false
set_option maxHeartbeats 4000000
local macro_rules | `(⋯)=>`(by first|decide|simp|omega|lia)
open List renaming mem_map->bg,length_map->bt,getElem?_eq_some_iff->cm,getElem?_eq_getElem->cn,getElem?_map->c6,mem_append->ee,mem_of_getElem?->eH,mem_cons_of_mem->eR,mem_cons->eS,length_append->eW,mem_cons_self->fk,not_mem_nil->fv,mem_filter->f',map_append->gf,length_cons->gi,map_map->gk,getD_eq_getElem?_getD->gm,mergeSort_perm->gn,size_toArray->gs,getElem?_set_ne->gD,range->hB,getElem?_append_right->hE,getElem?_append_left->hG,pairwise_map->hI,length_take->hY,map_cons->iW,getElem?_set_self->ka,nodup_append->lp,nodup_cons->lq,length_range->lT,countP_cons->me,all_eq_true->mA,length_set->nL,length_drop->nS,any_eq_true->n4,filter_sublist->n5,mem_singleton->n6,pairwise_iff_getElem->oy,perm_ext_iff_of_nodup->pl,countP_append->pq,mem_append_right->p8,length_filter_le->qe,length_pos_iff->ql,take_length->qt,countP_map->ri,append_nil->sb,pairwise_cons->tj,mem_range->tm,countP_eq_length_filter->tu,countP_congr->ub,append_assoc->um,getElem?_of_mem->uz,filter_cons->u4,map_congr_left->wm,getElem_of_mem->wy,getElem?_drop->xr,pairwise_mergeSort->zb,mem_flatMap->zc,replicate->C',nodup_nil->Dl,length_singleton->Hz,countP_eq_zero->Ts,getElem_mem->W1,getElem_map->W2,getElem_inj->W3,take_append_drop->W4,cons_lt_cons_iff->W5,getElem?_zip_eq_some->W6,not_lt->W8,flatMap_cons->W9,filter_congr->W',length_reverse->Xi,flatMap_append->Xj,lookup_cons->Xk,length_nil->XA,perm_append_comm->XD,mem_iff_getElem?->XF,lt_irrefl->XN,flatMap_def->XS,any_cons->XX,map_mergeSort->XZ,findIdx?_eq_some_iff_getElem->X4,take_of_length_le->X7,range_succ_eq_map->X8,flatMap_singleton->X9,count_nil->X',le_antisymm->Yh,map_take->Yl,map_drop->Ym,pairwise_append->Yo,mem_of_mem_take->Yp,range_succ->Yr,count_cons->Ys,map_nil->Yz,mem_filterMap->YC,filter_append->YD,mem_of_find?_eq_some->YL,reverse_cons->YN,count_append->YO,sum_cons->YR,lt_trans->YS,all_cons->YT,getElem?_replicate->YY,toArray->Y5,filter_eq_nil_iff->Y6,any_map->Y7,find?_cons->Zd,countP_le_length->Zh,mem_append_left->Zl,length_take_le'->Zm,map_eq_nil_iff->Zu,getElem?_range->Zv,filterMap_cons->Zw,zip_cons_cons->ZD,getElem?_take->ZE,find?_eq_none->ZF,filter_filter->ZG,count_eq_zero->ZH,take_sublist->ZR,map_id'->ZS,flatMap_map->Z8,drop_length->Z9,sum_append->aah,of_mem_zip->aai,forIn_cons->aaj,foldl_cons->aak,find?_some->aal,take_zero->aaD,length_eraseIdx_of_lt->aaE,exists_cons_of_ne_nil->aaF,exists_mem_of_ne_nil->aaJ,drop_eq_getElem_cons->aaK,getElem?_take_of_lt->aaM,pairwise_singleton->aaP,length_eq_zero_iff->aaQ,getElem?_cons_succ->aaR,countP_singleton->aa7,countP->aa',replicate_succ->abj,filter_eq_self->abk,ne_nil_of_mem->abq,map_inj_right->abr,findIdx?_cons->abt,count_pos_iff->abu,range'_succ->abR,map_snd_zip->abS,map_reverse->abT,ext_getElem->abU,headD_cons->ab7,filter_map->ab8,take_nil->aco,drop_nil->acp,sum_nil->acB,all_map->acC,count->ac7
open PySem renaming Value->cA,wpAny_bind->cW,sizeLine->dk,Addr->dn,Shared->ey,Str->e6,wpAny_pure->fm,Expr->hH,wpAny->hX,FuncData->kq,Program->kH,model->k5,mainGlobals->k7,compareOp->mu,starEach->nk,World->pe,Heap->ph,Around->qp,foldedSetIterable->ti,assignEach->t9,wpAny_holding->u5,behindInMarks->za,sizeLine_eq->zd,cLine->zR,swapsWith->Fs,Pos->H9,wpAny_call_entry->P',Obj->Th,wpAny_newObj_type->WV,wpAny_mono->W7,wpAny_truthy_bool->Xe,bootBuiltins->Xf,sysModules->Xm,Scope->Xp,Stmt->Xs,binaryOp->Xw,wpAny_typeNameOfWhole_keyiter->XB,backTo->XG,wpAny_passesOwn->XM,wpAny_pyIter_list->XQ,mem_of_lookup->XT,Paired->XW,holding->XY,wpAny_typeNameOf_keyiter->X5,attributeBase->X6,assign->Ya,wpAny_callSpecial?_slot->Yd,wpAny_eqBool_str->Yt,DictEntry->Yv,Builtin->Yy,sliceBounds->YA,codeAny_builtin->YE,tupleKind_room_in1->YU,call_meets->YV,wpAny_dictEntries->Y2,swapsWithSole->Y8,swappedStores->Y9,pyNext->Zn,codeAny_mono->Zo,codeAny->Zp,wpAny_execs_nil->Zr,shortFactorBits->Zs,letOwnedTupleGo->Zt,NameKind->ZK,lastMarks->ZL,getItem->ZM,PassesOwn->ZN,Env->ZO,wpAny_standAt->ZZ,wpAny_Call_Name_kw->aab,slot_list_getitem->aao,relabel->aap,boot_len->aaq,tupleKind->aaG,IsPart->aaH,subscripted->aaL,wpAny_dictEpoch->aaN,standAt->aaT,Keyword->aaU,typeLookup->aaV,GenState->aaX,CmpOp->aa2,wpAny_newList->abb,wpAny_getItem_list_slice->abc,wpAny_comprehension_free->abd,plainId_quiet->abe,evalPart_none->abf,bindL->abn,bindC->abo,wpAny_typeOf->abv,valueAt->abw,setItem->abx,seqIndex_neg->aby,rawInt->abz,merged->abA,isTrue->abB,concat_meets->abC,callerA->abD,Result->abF,BindsTo->abJ,wpAny_notOrdered_dict->abO,wpAny_isOneOf_keyiter->abP,wpAny_pyIter_keyiter->abX,wpAny_field->abY,seqIndex_of->abZ,keywordEach->ab0,bindArgs->ab1,atKey->ab2,wpAny_Name->ace,typeIs_int->acf,pyIter->acg,getattributeRaised->ach,builtinsNs->aci,wpAny_assign_Name->acu,wpAny_pyIter_zip->acD,wpAny_execs_cons->acE,wpAny_eqBool_int->acF,scanBound->acG,noFill_tuple_add->acI,cellsFrom->acJ,wpAny_setField->ac9,wpAny_fieldsOf->ac',backToKw->adb,wpAny_attempt->adm,seq_tuple_add->adn,evalPart_some->ado,call_list_seq->adp
open PySem.Heap renaming get?_push_of_some->e7,lt_size->gg,get?_push_size->ib,get?_update_other->Xu,SameBut->Y3,size_push->Zj,size_update->Z6,get?_update_self->aaW,get?_push_ne->abI
open Nat renaming le_refl->fj,ne_of_lt->hQ,mod_eq_of_lt->hS,le_trans->ia,lt_of_lt_of_le->l4,zero_le->pd,lt_irrefl->z9,mod_self->Dt,zero_add->I9,mul_le_mul_right->Xb,mod_lt->Xx,lt_of_le_of_lt->X1,add_mod_right->Yc,not_lt_zero->Yw,lt_succ_of_lt->YQ,lt_succ_self->Y0,le_add_right->Y1,sub_self->Zb,lt_trans->Zc,le_succ->Zq,succ_mul->ZW,ne_of_gt->ZX,le_of_lt->ZY,add_comm->aa6,sub_add_cancel->abN,min_eq_left->acd,add_le_add->acn,le_of_eq->acS,add_zero->acT,log2_lt->ac5,add_mod->ac6
open PySem.W renaming Frag->ft,mg_none_of->sH,nsIn->Xa,kia_one->Y',KatTups->Za,mg_of->aac,keepIn->aad,kas_rev->aar,fnOf->aas,methodObj->abE,OpenLaw->abQ,kat_cons->ab3,cellsFrom_some->acj,kat_no->acK,kat_lt->acL,kas_sort->acM,codeIn->acN,Looks->ade
open Bool renaming true->bi,false->bn,and_eq_true->gj,and_eq_true_iff->kx,not_eq_true'->sj,eq_iff_iff->t8,false_eq_true->yv,and_assoc->XO,and_comm->Yn,true_and->Zy,false_ne_true->ZI,or_eq_true->aan,not_eq_true->abW,false_or->acq,and_true->acr
open Option renaming some->al,none->am,map_eq_some_iff->gW,bind_some->ma,map_some->Rr,isSome_iff_exists->YK,isSome_map->ZC,getD_some->ZQ,getD_none->abp
open PySem.Str renaming ofString->iN,empty->XC,cps_append->XP,join->abg
open List.Pairwise renaming sublist->nE,imp_of_mem->Yq
open Array renaming getElem?_toList->px,length_toList->qh,getElem?_eq_getElem->qo,getD_eq_getD_getElem?->ua,toList_append->Xd,all_eq_true'->Zz,perm_iff_toList_perm->aaA,getElem?_eq_none->aaS,mem_toList_iff->aa8,append_assoc->abm,toList->acs,ext'->acV
open PySem.SeqAt renaming canLay_of_shaped->se,readOf->Yu,shaped->ZJ
open PySem.Builtin.Int renaming intBits->sW,intTooBig->aag
open Sum renaming inr->uy,inl->ZT
open PySem.PyData renaming strOk->u3,canLay0->W0,eqv->Xq,canLayAll0->YF,depthAll->Z5,eqvAll->ab4
open PySem.Builtin.Str renaming occurrences->HT
open PySem.F renaming plainAttrs_list->KX,slot_dict_keyiterator_next->T',called_set->WW,slot_list_append->X0,type_list_append->YG,args_tuple_add_2->aaw,args_dict_keyiterator_next_1->aax,entry_tuple_add->aaB,entry_dict_keyiterator_next->aaC,slot_tuple_add->aaI,slot_tuple_index->aaY,slot_list_insert->aaZ,slot_list_getattribute->aa0,slot_list_extend->aa1,slot_list_index->aa9,slot_dict_iter->ack,slot_int_rmul->acx,slot_dict_len->acy
open PySem.Value renaming bool->Sq,str->Xg,ref->Xh,int->YW,type->aat,isStrOf->aca,isInt->acv
open PyProof.Rows renaming envOfC->Xc,callWith_type1->Xn,slot_tuple_getitem->Xr,seqObj->Yb,IsTup->Yk,kindOf->YI,StrsAre->YM,room_in_shaped->YX,AllBare->ZP,entry_list_sort->aaO,slot_list_sort->aa3,args_list_sort->aa4,Subscript_->aa5,subscriptTail->abh,strKind_oneLt->abi,subscriptTail_builtinR->abK,keyKind_strs->abL,arrOf->ab6,keyLt'->acm,IntsAre->acA,list_sort_treeK->ac2,get?_update_seq->ac3,callWith_builtin1->ac4,tail_any->adi,sortedHeap_old->adj,slicePart_none->adk,sortedHeap_at->adu,listUpdate_at->adv
open Int renaming toNat_of_nonneg->Xl,eq_ofNat_of_zero_le->Xo,emod_lt_of_pos->X2,emod_nonneg->Yx,neg_lt_neg_iff->YJ,sub_zero->Zf,not_lt->Zg,neg_inj->aam,le_antisymm->aaz,toNat_natCast->abV,ne_of_lt->acU,le_refl->ac8
open False renaming elim->Xt
open Prod renaming ext_iff->Xv,ext->acb,snd->adw
open PySem.Builtin.Slice renaming slicePlaces->Xy,sliceAdjust->Yj,sliceApplied->Zx,slicePartIndex->acP,sliceFields->acQ
open PyProof.Rows.F renaming plain_set_update_loop->Xz,entry_set_update_loop->YP
open PySem.Builtin.Tuple renaming tupleExact->XH,tupleItemsOf->acO
open PySem.Builtin.List renaming listTooLong->XI,listFitsIndex->ZA
open Classical renaming byContradiction->XJ,propDecidable->XU
open PySem.PassesOwn renaming never->XR
open Or renaming inr->X3,inl->Ye
open True renaming intro->Yf
open PySem.Around renaming under_plainId->Yg
open PySem.Obj renaming mapSeq->Yi,data_mapFields->abG,mapFields->acw
open PySem.NameKind renaming free->YB,cell->abH
open PySem.Calls renaming call_function_entry->YH,Name_function_global->aay
open PySem.Txt renaming join->YZ
open PySem.Builtin.Dict_items renaming ownsTuple->Y4
open Option.some renaming injEq->Zi
open Prod.mk renaming injEq->Zk
open PySem.W.Looks renaming of_pure->ZU
open PySem.Builtin.Dict renaming updateFrom->ZV,pairItems->Z7,showsAll->aae,selfAndRest->acY,pendingCount->acZ,dictSlotNone->ac0,addKeywords->ac1
open Decidable renaming decide->bd,byContradiction->aaa
open PySem.Heap.IsSliceOf renaming new->aaf
open PySem.Spec renaming same->aau
open PySem.Heap.SameBut renaming update->aav
open ForInStep renaming yield->aba
open List.Perm renaming swap->abl
open PyProof.Rows.IsTup renaming new->abM
open PySem.Builtin.Frozenset renaming updateFrom->ab5
open Std.Legacy.Range renaming size->ab9,forIn_eq_forIn_range'->ab'
open PyProof.Rows.SortSt renaming mk'->acz
open PySem.Builtin.Range renaming rangeSize->acR
open PySem.W.WData renaming int->acW
open PySem.SeqAt.RcNeAt renaming lists_lengths->acX
open PySem.Heap.DictOf renaming new->adh
open PySem.SeqAt.RcAt renaming lists_lengths->adq
open PySem.SeqAt.EqAt renaming str_int->ads,int_str->adt
open List.Nodup renaming length_le_of_subset->adx
open And renaming intro->ady
open PySem PySem.Spec PyProof.Rows
noncomputable section
theorem ι{a b:Prop}(h:a):a\/b:=.inl h
theorem τ{a b:Prop}(h:b):a\/b:=.inr h
theorem ρ{a:Sort u}{b:a}:b=b:=rfl
namespace L2
def nO (h:am=al a):P:=by cases h
def sO (h:al a=al c):a=c:=by cases h;rfl
def sP (h:al (a,b)=al (c,d)):a=c/\b=d:=by cases h;exact⟨ρ,ρ⟩
inductive OB {α β γ:Type}(o:Option (α×β)) (g:α×β->Option γ) (r:γ):Prop
 | mk (a:α) (b:β) (e:o=al (a,b)) (h:g (a,b)=al r)
inductive OA {α γ:Type}(o:Option α) (g:α->Option γ) (r:γ):Prop
 | mk (a:α) (e:o=al a) (h:g a=al r)
theorem oB (h:o.bind g=al r):OB o g r:=by
 cases o with
 | none=>cases h
 | some p=>exact⟨p.1,p.2,ρ,h⟩
theorem oA (h:o.bind g=al r):OA o g r:=by
 cases o with
 | none=>cases h
 | some p=>exact⟨p,ρ,h⟩
theorem oM (h:o.map g=al r):OA o (λx=>al<|g x) r:=by
 cases o with
 | none=>cases h
 | some p=>exact⟨p,ρ,h⟩
theorem oN (h:o.map g=al r):OB o (λx=>al<|g x) r:=by
 cases o with
 | none=>cases h
 | some p=>exact⟨p.1,p.2,ρ,h⟩
abbrev Key:=Sum Int e6
noncomputable def j1:Key->cA->Bool
 | .inl k,v=>acv k v
 | .inr x,v=>aca x v
noncomputable def Mt(w:pe):Key->Int
 | .inl k=>hashInt k
 | .inr x=>hashStr w x
theorem jM:∀{k:Key}{v:cA},j1 k v=bi->(∃i t,k=ZT i/\v=YW i t)\/(∃x t,k=uy x/\v=Xg x t)
 | .inl i,v,h=>by obtain⟨t,e⟩:=Value.isInt_shape h;exact ι ⟨i,t,ρ,e⟩
 | .inr x,v,h=>by obtain⟨t,e⟩:=Value.isStrOf_shape h;exact τ ⟨x,t,ρ,e⟩
def Oy(i)(t):j1 (.inl i) (.int i t)=bi:=by simp[j1,acv]
def G7(x)(t):j1 (.inr x) (.str x t)=bi:=by simp[j1,aca]
def K9(a b):bd ((ZT a:Key)=ZT b)=(a==b):=by grind
def M6(a b):bd ((uy a:Key)=uy b)=bd (a=b):=by simp
def HS(a)(b):bd ((ZT a:Key)=uy b)=bn:=decide_eq_false<|λq=>nomatch q
def LS(a)(b):bd ((uy a:Key)=ZT b)=bn:=decide_eq_false<|λq=>nomatch q
def cF(prog)(w):PySem.KeyKind prog w Key where
 is:=j1
 hash:=Mt w
 inj:=λv a b f d=>by
  rcases jM f with⟨i,t,rfl,rfl⟩|⟨x,t,rfl,rfl⟩
  ·rcases jM d with⟨j,u,rfl,e⟩|⟨y,u,rfl,e⟩;simp_all;simp_all
  rcases jM d with⟨j,u,rfl,e⟩|⟨y,u,rfl,e⟩;simp_all;simp_all
 byValue:=λk v h=>by rcases jM h with⟨i,t,rfl,rfl⟩|⟨x,t,rfl,rfl⟩<;>rfl
 pyHash:=λc h=>by
  rcases jM c with⟨i,t,rfl,rfl⟩|⟨x,t,rfl,rfl⟩
  ·exact wpAny_pyHash_int h
  exact wpAny_pyHash_str h
 eqBool:=λg c h=>by
  rcases jM g with⟨i,t,rfl,rfl⟩|⟨x,t,rfl,rfl⟩
  ·rcases jM c with⟨j,u,rfl,rfl⟩|⟨y,u,rfl,rfl⟩
   ·rw[K9] at h;exact acF h
   rw[HS] at h;exact adt i t y u _ _ _ _ h
  rcases jM c with⟨j,u,rfl,rfl⟩|⟨y,u,rfl,rfl⟩
  ·rw[LS] at h;exact ads x t j u _ _ _ _ h
  rw[M6] at h;exact Yt h
 «strs»:=λk x t v h=>by rcases jM h with⟨i,u,rfl,e⟩|⟨y,u,rfl,e⟩;simp_all;injection e with l _;subst l;cases v<;>rfl
inductive V where
 | aU|bl (b:Bool)|int (i:Int)|str (x:e6)|tJ (b:Array UInt8)|yw (b:UInt64)|ref (a:dn)|ty (n:String)
 deriving DecidableEq
def RelV:V->cA->Prop
 | .aU,u=>u=Value.none
 | .bl b,u=>u=Sq b
 | .int i,u=>∃t,u=YW i t
 | .str x,u=>∃t,u=Xg x t
 | .tJ b,u=>∃t,u=Value.bytes b t
 | .yw b,u=>∃t,u=Value.float b t
 | .ref a,u=>u=Xh a
 | .ty n,u=>u=aat n
abbrev aC:List V->List cA->Prop:=XW RelV
def aC.length (r:aC xs us):xs.length=us.length:=Paired.length r
theorem aC.get{xs:List V}{us:List cA}{i:Nat}{x:V}(h:aC xs us)(e:xs[i]?=al x):∃u,us[i]?=al u/\RelV x u:=by
 induction h generalizing i with
 | nil=>simp at e
 | cons r _ a =>
  cases i with
  | zero=>simp at e;subst e;exact⟨_,ρ,r⟩
  | succ i=>exact a (i:=i) (by simpa using e)
theorem aC.set (r:RelV x u):∀{xs:List V}{us:List cA}(i:Nat),aC xs us->aC (xs.set i x) (us.set i u)
 | _,_,_,.nil=>.nil
 | _,_,0,.cons _ t=>.cons r t
 | _,_,i+1,.cons q t=>.cons q<|aC.set r i t
theorem aC.append{xs ys:List V}{us a:List cA}(h:aC xs us)(s:aC ys a):aC (xs++ys) (us++a):=by
 induction h with
 | nil=>exact s
 | cons r _ b=>exact .cons r b
theorem aC.take:∀{xs:List V}{us:List cA}(n:Nat),aC xs us->aC (xs.take n) (us.take n)
 | _,_,0,_=>.nil
 | _,_,_+1,.nil=>.nil
 | _,_,n+1,.cons r t=>.cons r<|aC.take n t
theorem aC.drop:∀{xs:List V}{us:List cA}(n:Nat),aC xs us->aC (xs.drop n) (us.drop n)
 | _,_,0,r=>r
 | _,_,_+1,.nil=>.nil
 | _,_,n+1,.cons _ t=>aC.drop n t
def j5:Option V->Option cA->Prop
 | some v,al u=>RelV v u
 | none,am=>True
 | _,_=>False
def KV:List (a×V)->List (a×cA)->Prop:=XW λ(p:a×V) (q:a×cA)=>p.1=q.1/\RelV p.2 q.2
noncomputable def kV:Key->V
 | .inl i=>.int i
 | .inr x=>.str x
inductive HO where
 /-- a list -/
 | L (xs:List V)
 /-- a tuple (never changes) -/
 | U (xs:List V)
 /-- a dict whose keys are ints and texts;one whose keys are tuples of ints and texts (the empty one is both) -/
 | dK (kvs:List (Key×V))|dT (kvs:List (List Key×V))
 /-- a set of ints: its members,its size -/
 | set (S:Int->Bool) (n:Nat)
 /-- an instance of the class at C,its dict at dx,its attributes -/
 | ins (C dx:dn) (fs:List (e6×V))
 /-- the dict of the instance at x -/
 | O (x:dn)
 /-- the dict of an exception -/
 | xd (fs:List (e6×V))
 /-- a bound method,f of x -/
 | met (f x:dn)
 /-- a range object lo,lo+1,.. below hi -/
 | rj (lo hi:Int)
 /-- a thing that is known to the object (the script;a dict while a loop walks it): read,never written while it is so -/
 | aV (o:Th) (u:HO)
 /-- a code object's table -/
 | my (ps:Array cA)
 /-- any other thing,by what is true of its one object (a def of one's own: SetO a S n:=HO.ext fun h=>..) -/
 | ext (φ:ph->Prop)
abbrev Hp:=dn->Option HO
noncomputable def upd(H:Hp)(a:dn)(o:HO):Hp:=λb=>if b=a then al o else H b
def aT:upd H a o a=al o:=by unfold upd;rw[if_pos ρ]
def ax (h:b≠a):upd H a o b=H b:=by simp_all [upd]
def Lg:upd (upd H a o) a u=upd H a u:=by funext b;simp_all [upd]
def Uv{H:Hp}{a b:dn}{o u:HO}(h:H a=al o)(h':H b=al u)(d:o≠u):a≠b:=by grind
def dq{H:Hp}{a b:dn}{o:HO}(h:H a=al o)(h':H b=am):a≠b:=by lia
section
variable(P:kH)(w:pe)
def cB(H:Hp)(h:ph)(a:dn):HO->Prop
 | .L xs=>xs.length<=dk/\∃(its:List cA) (n:Nat),aC xs its/\h.get? a=al {cls:=.type "list",data:=.seq its.toArray n}
 | .U xs=>xs.length<=dk/\∃its:List cA,aC xs its/\Yk h a its.toArray
 | .dK kvs=>kvs.length<=dk/\(a==Xm)=bn/\∃vs,KV kvs vs/\h.DictOf (cF P w) a vs
 | .dT kvs=>kvs.length<=dk/\(a==Xm)=bn/\∃xs:List (List Key×dn×cA),
   XW (λ(p:List Key×V) (q:List Key×dn×cA)=>p.1=q.1/\H q.2.1=al (.U<|p.1.map kV)/\RelV p.2 q.2.2) kvs xs /\
   ∃o e ep,h.get? a=al o/\o.ExactDict/\o.data=.dict e ep/\e.toList=xs.map (entryOfKey<|aaG<|cF P w)/\(xs.map (·.1)).Nodup
 | .set S n=>h.SetOf (intKind P w) a S n
 | .ins C c fs=>H c=al (.O a)/\fs.length<=1000/\c≠a/\h.get? a=al (W.instObj C c) /\
   ∃b,h.Ns1 c b/\(∀f,j5 (fs.lookup f)<|b f)/\PySem.Within b (fs.map (·.1))
 | .O _=>∃o,h.get? a=al o
 | .xd fs=>∃b,h.Ns1 a b/\∀f,j5 (fs.lookup f) (b f)
 | .rj lo j=>∃t u v,h.get? a=al {cls:=.type "range",data:=.fields #[.int lo t,.int j u,.int 1 v]}
 | .aV o u=>h.get? a=al o/\cB H h a u
 | .my k=>h.get? a=al {cls:=.none,data:=.fields k}
 | .met f x=>h.get? a=al (abE (.ref f)<|.ref x)
 | .ext d=>d h/\(∃o,h.get? a=al o)/\∀g i:ph,d g->(∀o,g.get? a=al o->i.get? a=al o)->d i
def bZ(H:Hp)(h:ph):Prop:=∀a o,H a=al o->cB P w H h a o
end
section
variable{P:kH}{w:pe}{H H':Hp}{h h':ph}{a:dn}{o:HO}{x e:dn}{o':HO}
theorem cB.lt(x:cB P w H h a o):a<h.objs.size:=by
 cases o with
 | L xs=>obtain⟨_,_,_,_,e⟩:=x;exact gg e
 | U xs=>obtain⟨_,_,_,p⟩:=x;exact p.lt
 | dK kvs=>obtain⟨_,_,_,_,o,_,_,e,_⟩:=x;exact gg e
 | dT kvs=>obtain⟨_,_,_,_,o,_,_,e,_⟩:=x;exact gg e
 | set S n=>obtain⟨o,_,_,_,e,_⟩:=x;exact gg e
 | ins C dx fs=>obtain⟨_,_,_,e,_⟩:=x;exact gg e
 | O y=>obtain⟨_,e⟩:=x;exact gg e
 | xd fs=>obtain⟨_,⟨_,_,_,e,_⟩,_⟩:=x;exact gg e
 | rj lo hi=>obtain⟨_,_,_,e⟩:=x;exact gg e
 | aV ob u=>obtain⟨e,_⟩:=x;exact gg e
 | my ps=>exact gg (x)
 | met f y=>exact gg (x)
 | ext φ=>obtain⟨_,⟨_,e⟩,_⟩:=x;exact gg e
theorem Paired.qH{c d:Type}{F G:c->d->Prop}{l₁:List c}{l₂:List d}(p:XW F l₁ l₂)(f:∀a b,F a b->G a b):XW G l₁ l₂:=by
 induction p with
 | nil=>exact .nil
 | cons r _ g=>exact .cons (f _ _ r) g
theorem cB.gp(x:cB P w H h a o)(k:∀b u,(b=a\/H b=al (.O a))->h.get? b=al u->h'.get? b=al u)
 (s:∀b,H b=al (.O a)->H' b=al (.O a))(A:∀b xs,H b=al (.U xs)->H' b=al (.U xs)):cB P w H' h' a o:=by
 induction o with
 | L xs=>obtain⟨z,its,n,r,e⟩:=x;exact⟨z,its,n,r,k _ _ (ι ρ) e⟩
 | U xs=>obtain⟨z,its,r,g,e,c⟩:=x;exact⟨z,its,r,g,k _ _ (ι ρ) e,c⟩
 | dK kvs=>obtain⟨z,y,vs,r,g,i,ep,e,c⟩:=x;exact⟨z,y,vs,r,g,i,ep,k _ _ (ι ρ) e,c⟩
 | dT kvs=>obtain⟨z,y,xs,r,g,i,ep,e,c⟩:=x;exact⟨z,y,xs,Paired.qH r λp q z=>⟨z.1,A _ _ z.2.1,z.2.2⟩,g,i,ep,k _ _ (ι ρ) e,c⟩
 | set S n=>obtain⟨g,i,ep,t,e,c⟩:=x;exact⟨g,i,ep,t,k _ _ (ι ρ) e,c⟩
 | ins C dx fs=>obtain⟨d,z,ne,e,j,⟨l,i,ep,B,c⟩,r⟩:=x;exact⟨s _ d,z,ne,k _ _ (ι ρ) e,j,⟨l,i,ep,k _ _ (τ d) B,c⟩,r⟩
 | O y=>obtain⟨g,e⟩:=x;exact⟨g,k _ _ (ι ρ) e⟩
 | xd fs=>obtain⟨j,⟨l,i,ep,e,c⟩,r⟩:=x;exact⟨j,⟨l,i,ep,k _ _ (ι ρ) e,c⟩,r⟩
 | rj lo hi=>obtain⟨t,u,v,e⟩:=x;exact⟨t,u,v,k _ _ (ι ρ) e⟩
 | aV g u D=>obtain⟨e,q⟩:=x;exact⟨k _ _ (ι ρ) e,D q⟩
 | my m=>have e:=x;exact k a _ (ι ρ) e
 | met f y=>have e:=x;exact k a _ (ι ρ) e
 | ext φ=>obtain⟨p,⟨o,e⟩,st⟩:=x;exact⟨st _ _ p λo q=>k _ _ (ι ρ) q,⟨o,k _ _ (ι ρ) e⟩,st⟩
def bZ.lt(x:bZ P w H h)(e:H a=al o):a<h.objs.size:=(x a o e).lt
theorem bZ.fresh(x:bZ P w H h)(e:h.objs.size<=a):H a=am:=by
 cases q:H a with
 | none=>rfl
 | some u=>exact absurd (l4 (x.lt q) e)<|z9 _
def bZ.kept(x:bZ P w H h)(k:∀b u,h.get? b=al u->h'.get? b=al u):bZ P w H h':=λa o e =>
 (x a o e).gp (λb u _ q=>k b u q) (λ_ q=>q) λ_ _ q=>q
def bZ.laid(x:bZ P w H h)(k:∀b u,h.get? b=al u->h'.get? b=al u)(i:h.objs.size<=a)(d:cB P w (upd H a o) h' a o):bZ P w (upd H a o) h':=λb u e=>by
 have f:=x.fresh i;by_cases g:b=a
 ·subst g;rw[aT] at e;obtain rfl:=sO e;exact d
 rw[ax g] at e;exact (x b u e).gp (λc v _ q=>k c v q) (λc q=>by rw[ax (dq q f)];exact q) λc xs q=>by rw[ax (dq q f)];exact q
def Rd(H:Hp)(a:dn)(u:HO):Prop:=H a=al u\/∃o,H a=al (.aV o u)
def Rd.of (h:H a=al u):Rd H a u:=ι h
def Rd.ok (r:Rd H a u)(x:bZ P w H h):cB P w H h a u:=by
 rcases r with r|⟨o,r⟩
 ·exact x a u r
 obtain⟨_,q⟩:=x a _ r;exact q
def qS:Option HO->Prop
 | some (.L _)=>True
 | some (.dK _)=>True
 | some (.dT _)=>True
 | some (.set _ _)=>True
 | some (.ins _ _ _)=>True
 | some (.ext _)=>True
 | _=>False
def bZ.write(ok:bZ P w H h)(f:qS (H x))(p:e=x\/H e=al (.O x))(k:∀b u,b≠e->h.get? b=al u->h'.get? b=al u)(l:∃u,h'.get? e=al u)
 (m:cB P w (upd H x o') h' x o'):bZ P w (upd H x o') h':=λb u q=>by
 have g:∀c y,H c=al (.O y)->c≠x:=λc y r z=>by subst z;rwa[r] at f
 have i:∀c xs,H c=al (.U xs)->c≠x:=λc xs r z=>by subst z;rwa[r] at f
 by_cases j:b=x
 ·subst j;rw[aT] at q;obtain rfl:=sO q;exact m
 rw[ax j] at q;by_cases d:b=e
 ·have n:H b=al (.O x):=by
   rcases p with z|z
   ·exact absurd (d.trans z) j
   rwa[d]
  rw[q] at n;obtain rfl:=sO n;obtain⟨v,s⟩:=l;exact⟨v,by rw[d];exact s⟩
 refine (ok b u q).gp (λc v hc r=>k c v ?_ r) (λc r=>by rw[ax (g c b r)];exact r) λc xs r=>by rw[ax (i c xs r)];exact r
 grind
end
structure Un (fs ex:List dn) (H H':Hp) (h h':ph):Prop where
 keep:∀b o,h.get? b=al o->H b=am->b∉fs->b∉ex->h'.get? b=al o
 slot:∀b o,h.get? b=al o->H b=am->b∈fs->b∉ex->∃sl,h'.get? b=al {o with slots:=sl}
 free:∀b o,h.get? b=al o->H b=am->b∉ex->H' b=am
 there:∀b o,h.get? b=al o->b∉ex->∃o',h'.get? b=al o'
 jo:∀b xs,H b=al (.U xs)->H' b=al (.U xs)
 iP:∀b o u,H b=al (.aV o u)->H' b=al (.aV o u)
 iM:∀b ps,H b=al (.my ps)->∃more,H' b=al (.my<|ps++more)
section
variable{fs fs' ex ex':List dn}{H H1 H2:Hp}{h h1 h2 h':ph}{a x e:dn}{o:HO}
def Un.any(u:Un fs ex H H1 h h1)(q:h.get? b=al c)(n:H b=am)(hx:b∉ex):∃f,h1.get? b=al {c with slots:=f}:=by
 by_cases d:b∈fs
 ·exact u.slot b c q n d hx
 exact⟨c.slots,u.keep b c q n d hx⟩
def Un.kept(k:∀b u,h.get? b=al u->h'.get? b=al u):Un fs ex H H h h' :=
 ⟨λb c q _ _ _=>k b c q,λb c q _ _ _=>⟨c.slots,k b c q⟩,λ_ _ _ n _=>n,λb c q _=>⟨c,k b c q⟩,λ_ _ q=>q,λ_ _ _ q=>q,λ_ ps q=>⟨#[],by rw[q];simp⟩⟩
def Un.refl:Un fs ex H H h h:=Un.kept λ_ _ q=>q
def Un.laid(k:∀b u,h.get? b=al u->h'.get? b=al u)(d:h.objs.size<=a)(c:H a=am):Un fs ex H (upd H a o) h h' where
 keep:=λb u q _ _ _=>k b u q
 slot:=λb u q _ _ _=>⟨u.slots,k b u q⟩
 free:=λb u q n _=>by rw[ax (hQ<|l4 (gg q) d)];exact n
 there:=λb u q _=>⟨u,k b u q⟩
 jo:=λb xs q=>by rw[ax (dq q c)];exact q
 iP:=λb u xs q=>by rw[ax (dq q c)];exact q
 iM:=λb ps q=>⟨#[],by rw[ax (dq q c),q];simp⟩
def Un.write(d:qS (H x))(he:e=x\/H e=al (.O x))(k:∀b u,b≠e->h.get? b=al u->h'.get? b=al u)(heo:∃u,h'.get? e=al u):Un fs ex H (upd H x o) h h':=by
 have hx:∀b,H b=am->b≠x:=λb n z=>by subst z;rwa[n] at d
 have f:∀b,H b=am->b≠e:=by lia
 have c:∀b u,H b=al u->¬qS (al u)->b≠x:=by lia
 refine⟨λb u q n _ _=>k b u (f b n) q,λb u q n _ _=>⟨u.slots,k b u (f b n) q⟩,λb u q n _=>by rw[ax (hx b n)];exact n,λb u q _=>?_,
  λb xs q=>by rw[ax (c b _ q λz=>z)];exact q,λb u xs q=>by rw[ax (c b _ q λz=>z)];exact q,λb ps q=>⟨#[],by rw[ax (c b _ q λz=>z),q];simp⟩⟩
 by_cases g:b=e;simp_all;exact⟨u,k b u g q⟩
end
noncomputable def gr(h:ph)(H:Hp):List Addr:=(hB h.objs.size).filter λa=>(H a).isSome
def kU(h:ph)(H:Hp):Heap:=W.hideAll h<|gr h H
theorem Ki (e:(kU h H).get? b=al o):h.get? b=al o/\H b=am:=by
 have a:=W.of_hideAll (gr h H) e;refine⟨a,?_⟩;cases q:H b with
 | none=>rfl
 | some x=>simp_all [gr,kU,gg,W.hideAll_none]
noncomputable def mX(g h:ph)(L:dn):List (dn×Th):=(hB h.objs.size).filterMap λa=>if a=L\/(g.get? a).isSome=bi then am else (h.get? a).map λo=>(a,o)
def xg (c:a≠L)(d:g.get? a=am)(b:h.get? a=al o):(a,o)∈mX g h L :=
 YC.2 ⟨a,tm.2<|gg b,by simp[c,d,b]⟩
theorem Qs{g h:ph}{L:dn}{p:dn×Th}(a:p∈mX g h L):p.1≠L/\g.get? p.1=am/\h.get? p.1=al p.2:=by
 obtain⟨b,_,e⟩:=YC.1 a;split at e
 ·exact nO e
 cases q:h.get? b with
 | none=>simp_all
 | some u=>rw[q] at e;simp at e;subst e;simp_all
theorem FQ{g h:ph}{L:dn}:News g L h (mX g h L):=fun p d=>let ⟨a,b,c⟩:=Qs d;⟨c,a,b⟩
structure Mod (K:ft) (mg:e6->Option cA) (base:ph):Prop where
 A7:K.In base
 glob:base.Ns k7 mg
 blt:∃mb,base.Ns aci mb/\∀x:e6,x≠"__name__"->mb x=Xf x
 nolimit:base.NoLimit
structure Cx where
 prog:kH
 w:pe
 K:ft
 mg:e6->Option cA
 base:ph
 A:qp
 N:List e6
 eG:ey
 ki:Hp
 env:ZO
 outer:List ZO
 stack:List ZO
 ex:List dn
 fn:e6->Bool
 calm:Bool
 pn:List (dn×Th)
 xe:cA->ey->Prop
noncomputable def jy(l:List ZO):List Addr:=l.filterMap (·.frame)
abbrev bD(x:e6):Prop:=(x==("__debug__":e6))=bn
abbrev cH(x:e6):Prop:=(x==("__classdict__":e6))=bn
abbrev bN(X:Cx)(e:hH)(a:List hH):Prop:=nk (e::a) X.env=(false,eval e X.env)::nk a X.env
abbrev sA(X:Cx)(p:H9)(e:hH):Prop:=((XG p<|nk [e] X.env).all (λx=>!x.1)&&(adb p<|ab0 [] X.env).all (λx=>x.1.isSome)&&bd ([e].length+([]:List aaU).length+(if ([]:List aaU).isEmpty then 0 else 1)<30))=bi
abbrev Cx.fs(X:Cx):List Addr:=jy X.outer
def cj(a:Xp)(x:e6):Prop:=a.names.lookup x=some .local\/a.names.lookup x=some .cell\/a.names.lookup x=some .free
def Loc(a:Xp)(x:e6):Prop:=a.names.lookup x=some .local\/a.names.lookup x=some .cell
def Look(env:ZO)(h:ph)(m:e6->Option cA)(x:e6)(u:cA):Prop :=
 (env.kindOf x=some .local/\m x=al u)\/((env.kindOf x=some .cell\/env.kindOf x=some .free)/\∃c,env.cells.lookup x=al c/\h.IsCell c (al u))
structure Cx.Ok (X:Cx):Prop where
 mod:Mod X.K X.mg X.base
 kind:X.env.scope.kind=.function
 glob:X.env.globals=k7
 blt:X.env.builtins=aci
 above:X.eG.heap.objs.size<=X.env.locals
 inj:∀x y c,X.env.cells.lookup x=al c->X.env.cells.lookup y=al c->x=y
 has:∀x,(X.env.kindOf x=some .cell\/X.env.kindOf x=some .free)->∃c,X.env.cells.lookup x=al c
 qV:∀x c,X.fn x=bi->X.env.cells.lookup x=al c->X.eG.heap.objs.size<=c
 hd:X.calm=bi->X.A.handled=am
 frames:X.A.frames=al X.stack
 vY:X.stack=X.outer\/(X.stack=X.env::X.outer/\X.env.frame=al X.env.locals)
 F3:∀b∈X.ex,b≠X.env.locals/\∀x c,X.env.cells.lookup x=al c->c≠b
 bs:∀b o,X.base.get? b=al o->X.eG.heap.get? b=al o/\X.ki b=am
 mf:X.base.objs.size<=X.eG.heap.objs.size
 tG:∀b o,X.base.get? b=al o->b∉X.ex
 uk:∀b∈X.ex,b∉X.fs
 jO:X.eG.heap.FunFrames X.base X.outer
 pZ:∀b∈X.fs,X.ki b=am
structure Inv (X:Cx) (pins:List (dn×Th)) (σ:List (Option V)) (H:Hp) (s:ey):Prop where
 ok:X.Ok
 os:s.os=X.eG.os
 bare:ZP s.gens
 base:Un X.fs X.ex X.ki H X.eG.heap s.heap
 loc:∃m,s.heap.Ns X.env.locals m/\∀(i:Nat) (x:e6) (v:V),X.N[i]?=al x->σ[i]?=al (al v)->cj X.env.scope x->∃u,RelV v u/\Look X.env s.heap m x u
 cell:∀x c,X.env.cells.lookup x=al c->∃v,s.heap.IsCell c v
 free:H X.env.locals=am
 hJ:∀x c,X.env.cells.lookup x=al c->H c=am
 pin:∀p∈X.pn++pins,s.heap.get? p.1=al p.2/\H p.1=am/\p.1≠X.env.locals/\p.1∉X.fs/\∀v,p.2.data≠.cell v
 ak:bZ X.prog X.w H s.heap
 len:σ.length=X.N.length
section
variable{X:Cx}{pins:List (dn×Th)}{σ:List (Option V)}{H H':Hp}{s:ey}{h':ph}
def Cx.Ok.HY(ok:X.Ok)(e:X.base.get? b=al o):b∉X.fs:=λa=>by have:=(ok.jO.mem a).1;simp_all
def Inv.bs(I:Inv X pins σ H s):∀b o,X.base.get? b=al o->s.heap.get? b=al o/\H b=am:=λb o e =>
 ⟨I.base.keep b o (I.ok.bs b o e).1 (I.ok.bs b o e).2 (I.ok.HY e) (I.ok.tG b o e),I.base.free b o (I.ok.bs b o e).1 (I.ok.bs b o e).2 (I.ok.tG b o e)⟩
def Inv.bk(I:Inv X pins σ H s):∀b o,X.base.get? b=al o->s.heap.get? b=al o:=λb o e=>(I.bs b o e).1
def Inv.mod(I:Inv X pins σ H s):Mod X.K X.mg X.base:=I.ok.mod
def Inv.ik(I:Inv X pins σ H s):X.K.In s.heap:=I.ok.mod.A7.keeps I.bk
def Inv.lt(I:Inv X pins σ H s):X.env.locals<s.heap.objs.size:=let ⟨_,a,_⟩:=I.loc;a.lt
def Inv.sz(I:Inv X pins σ H s):X.eG.heap.objs.size<=s.heap.objs.size:=ia I.ok.above<|ZY I.lt
def Inv.N3(I:Inv X pins σ H s)(h:s.heap.objs.size<=a):a∉X.fs:=λb=>by obtain⟨_,o,c,_⟩:=I.ok.jO.mem b;exact absurd (l4 (gg c)<|ia I.sz h)<|z9 _
def Inv.kA(I:Inv X pins σ H s):∀x c,X.env.cells.lookup x=al c->c≠X.env.locals:=λx c e z=>by obtain⟨v,o,ho,hd⟩:=I.cell x c e;obtain⟨m,⟨o',es,ep,ho',hd',_⟩,_⟩:=I.loc;simp_all
theorem Inv.jO(I:Inv X pins σ H s):s.heap.FunFrames X.base X.outer:=by
 have all:∀(l:List ZO),(∀b∈jy l,b∈X.fs)->X.eG.heap.FunFrames X.base l->s.heap.FunFrames X.base l:=by
  intro l;induction l with
  | nil=>intro _ _;trivial
  | cons env r g=>intro f hl;obtain⟨h,⟨L,o,a,i,j,hd⟩,k⟩:=hl;have c:=f L (by unfold jy;rw[Zw,a];exact fk);obtain⟨sl,e⟩:=I.base.slot L o j (I.ok.pZ L c) c λz=>I.ok.uk L z c;exact⟨h,⟨L,_,a,i,e,hd⟩,g (λb d=>f b (by unfold jy;rw[Zw,a];exact eR _ d)) k⟩
 exact all X.outer (λ_ d=>d) I.ok.jO
def Inv.stack(I:Inv X pins σ H s):s.heap.FunFrames X.base X.stack:=by
 rcases I.ok.vY with e|⟨e,a⟩
 ·rw[e];exact I.jO
 rw[e];obtain⟨m,b,_⟩:=I.loc;refine .cons (by rw[I.ok.kind];decide) a b ?_ I.jO;exact Heap.get?_none_of_le<|ia I.ok.mf I.ok.above
def Inv.vB(I:Inv X pins σ H s):∀b∈jy X.stack,b∈X.env.locals::X.fs:=λb a=>by
 rcases I.ok.vY with e|⟨e,c⟩
 ·rw[e] at a;exact eR _ a
 rw[e] at a;delta jy at a;simp only[Zw,c] at a;exact a
def Inv.HC(I:Inv X pins σ H s):∀b∈jy X.stack,H b=am:=λb a=>by
 rcases eS.1 (I.vB b a) with e|a
 ·rw[e];exact I.free
 obtain⟨_,o,c,_⟩:=I.ok.jO.mem a;exact I.base.free b o c (I.ok.pZ b a) λz=>I.ok.uk b z a
def Inv.step{g':Array aaX}{t':Nat}{d':Drawn}{ch:List dn}(I:Inv X pins σ H s)
 (f:∀b∈ch,(b∈X.ex\/X.eG.heap.objs.size<=b)/\b≠X.env.locals/\(∀x c,X.env.cells.lookup x=al c->c≠b)/\∀p∈X.pn++pins,p.1≠b)
 (keep:∀b o,b≠X.env.locals->b∉X.fs->b∉ch->s.heap.get? b=al o->H b=am->h'.get? b=al o)
 (slot:∀b o,b≠X.env.locals->b∈X.fs->b∉ch->s.heap.get? b=al o->H b=am->∃E,h'.get? b=al {o with slots:=E})(free:∀b o,b∉ch->s.heap.get? b=al o->H b=am->H' b=am)
 (there:∀b o,b∉ch->s.heap.get? b=al o->∃A,h'.get? b=al A)
 (jo:∀b xs,H b=al (.U xs)->H' b=al (.U xs))(iP:∀b o u,H b=al (.aV o u)->H' b=al (.aV o u))(iM:∀b C,H b=al (.my C)->∃more,H' b=al (.my<|C++more))
 (K:∀m,s.heap.Ns X.env.locals m->h'.Ns X.env.locals m)(ak:bZ X.prog X.w H' h')(L:ZP g') :
  Inv X pins σ H' {s with heap:=h',gens:=g',drawn:=d',toks:=t'}:=by
 have D:∀b o,X.eG.heap.get? b=al o->b≠X.env.locals:=λb o e=>hQ<|l4 (gg e) I.ok.above;have j:∀b o,X.eG.heap.get? b=al o->b∉X.ex->b∉ch:=λb o e hx h=>by
  rcases (f b h).1 with z|z
  ·exact hx z
  exact absurd (l4 (gg e) z)<|z9 _
 have t:∀x c,X.env.cells.lookup x=al c->∀v,s.heap.IsCell c v->h'.IsCell c v:=λx c e v ⟨o,y,hd⟩=>by
  have g:c∉ch:=λz=>(f c z).2.2.1 x c e ρ;by_cases F:c∈X.fs
  ·obtain⟨E,q⟩:=slot c o (I.kA x c e) F g y<|I.hJ x c e;exact⟨_,q,hd⟩
  exact⟨o,keep c o (I.kA x c e) F g y<|I.hJ x c e,hd⟩
 refine⟨I.ok,I.os,L,⟨λb o e n h hx=>?_,λb o e n h hx=>?_,λb o e n hx=>?_,λb o e hx=>?_,λb xs e=>jo b xs<|I.base.jo b xs e,λb o xs e=>iP b o xs<|I.base.iP b o xs e,λb C e=>?_⟩,?_,λx c e=>?_,?_,λx c e=>?_,λp G=>?_,ak,I.len⟩
 ·exact keep b o (D b o e) h (j b o e hx) (I.base.keep b o e n h hx)<|I.base.free b o e n hx
 ·obtain⟨E,a⟩:=I.base.slot b o e n h hx;obtain⟨J,B⟩:=slot b _ (D b o e) h (j b o e hx) a<|I.base.free b o e n hx;exact⟨J,B⟩
 ·obtain⟨A,a⟩:=I.base.there b o e hx;exact free b A (j b o e hx) a<|I.base.free b o e n hx
 ·obtain⟨A,a⟩:=I.base.there b o e hx;exact there b A (j b o e hx) a
 ·obtain⟨M,a⟩:=I.base.iM b C e;obtain⟨N,B⟩:=iM b _ a;exact⟨M++N,by rw[B,abm]⟩
 ·obtain⟨m,O,hl⟩:=I.loc;refine⟨m,K m O,λi x v a B P=>?_⟩;obtain⟨u,r,l⟩:=hl i x v a B P;refine⟨u,r,?_⟩;rcases l with l|⟨k,c,e,z⟩
  ·exact ι l
  exact τ ⟨k,c,e,t x c e _ z⟩
 ·obtain⟨v,z⟩:=I.cell x c e;exact⟨v,t x c e v z⟩
 ·obtain⟨m,⟨o,_,_,y,_⟩,_⟩:=I.loc;exact free _ o (λz=>(f _ z).2.1 ρ) y I.free
 ·obtain⟨v,o,y,hd⟩:=I.cell x c e;exact free c o (λz=>(f c z).2.2.1 x c e ρ) y<|I.hJ x c e
 obtain⟨e,n,ne,nf,d⟩:=I.pin p G;have g:p.1∉ch:=λz=>(f p.1 z).2.2.2 p G ρ;exact⟨keep p.1 p.2 ne nf g e n,free p.1 p.2 g e n,ne,nf,d⟩
def Inv.un (I:Inv X pins σ H s)(u:Un X.fs [] H H' s.heap h')(ak:bZ X.prog X.w H' h'):Inv X pins σ H' {s with heap:=h',toks:=t'}:=by
 obtain⟨m,⟨o,es,ep,d,r⟩,_⟩:=id I.loc;obtain⟨sl,h⟩:=u.any d I.free ⋯
 exact I.step (ch:=[]) (λ_ z=>nomatch z) (λb o _ c _ e n=>u.keep b o e n c ⋯) (λb o _ c _ e n=>u.slot b o e n c ⋯) (λb o _ e n=>u.free b o e n ⋯) (λb o _ e=>u.there b o e ⋯) u.jo u.iP u.iM (λm' i=>by obtain⟨o',f,g,a,j⟩:=i;rw[d] at a;obtain rfl:=sO a;exact⟨_,f,g,h,j⟩) ak I.bare
def Inv.call (I:Inv X pins σ H s)(u:Un (jy X.stack) ch H H' s.heap h')(ak:bZ X.prog X.w H' h')(k:ZP g')(d:∀b∈ch,(b∈X.ex\/X.eG.heap.objs.size<=b)/\b≠X.env.locals/\(∀x c,X.env.cells.lookup x=al c->c≠b)/\∀p∈X.pn++pins,p.1≠b) :
  Inv X pins σ H' {s with heap:=h',gens:=g',drawn:=d',toks:=t'}:=by
 obtain⟨m,⟨o,es,ep,h,r⟩,_⟩:=id I.loc;obtain⟨sl,g⟩:=u.any h I.free λz=>(d _ z).2.1 ρ
 exact I.step d (λb o g l a e n=>u.keep b o e n (λz=>(eS.1<|I.vB b z).elim g l) a) (λb o _ _ a e n=>u.any e n a) (λb o a e n=>u.free b o e n a) (λb o a e=>u.there b o e a) u.jo u.iP u.iM (λm' q=>by obtain⟨o',i,j,f,t⟩:=q;rw[h] at f;obtain rfl:=sO f;exact⟨_,i,j,g,t⟩) ak k
def Inv.turned (I:Inv X pins σ H s)(k:∀b o,b≠it->s.heap.get? b=al o->h'.get? b=al o)(hn:H it=am)(f:it≠X.env.locals)(g:it∈X.ex\/X.eG.heap.objs.size<=it)(h:∀x c,X.env.cells.lookup x=al c->c≠it)(i:∀p∈X.pn++pins,p.1≠it):Inv X pins σ H {s with heap:=h',toks:=t'}:=by
 have d:∀b u,H b=al u->b≠it:=by lia
 refine I.step (ch:=[it]) (λb j=>?_) (λb o _ _ a e _=>k b o (λz=>a (by simp[z])) e) (λb o _ _ a e _=>⟨o.slots,k b o (λz=>a (by simp[z])) e⟩) (λ_ _ _ _ n=>n)
  (λb o a e=>⟨o,k b o (λz=>a (by simp[z])) e⟩) (λ_ _ e=>e) (λ_ _ _ e=>e) (λb ps e=>⟨#[],by rw[e];simp⟩) (λm l=>?_) (λb u e=>?_) I.bare
 ·have e:b=it:=by simpa using j
  subst e;exact⟨g,f,h,i⟩
 ·obtain⟨o,t,ep,w,r⟩:=l;exact⟨o,t,ep,k _ o (Ne.symm f) w,r⟩
 refine (I.ak b u e).gp (λc v a q=>k c v ?_ q) (λ_ q=>q) λ_ _ q=>q;rcases a with z|z
 ·rw[z];exact d b u e
 exact d c _ z
def Inv.tok(I:Inv X pins σ H s)(t:Nat):Inv X pins σ H {s with toks:=t}:=I.un Un.refl I.ak
def Inv.kept (I:Inv X pins σ H s)(k:∀b u,s.heap.get? b=al u->h'.get? b=al u):Inv X pins σ H {s with heap:=h',toks:=t'}:=I.un (Un.kept k)<|I.ak.kept k
def Inv.laid (I:Inv X pins σ H s)(k:∀b u,s.heap.get? b=al u->h'.get? b=al u)(c:s.heap.objs.size<=a)(d:cB X.prog X.w (upd H a o) h' a o) :
  Inv X pins σ (upd H a o) {s with heap:=h',toks:=t'}:=I.un (Un.laid k c<|I.ak.fresh c)<|I.ak.laid k c d
def Inv.write (I:Inv X pins σ H s)(c:qS (H x))(d:e=x\/H e=al (.O x))(k:∀b u,b≠e->s.heap.get? b=al u->h'.get? b=al u)(a:∃u,h'.get? e=al u)(f:cB X.prog X.w (upd H x o) h' x o):Inv X pins σ (upd H x o) {s with heap:=h',toks:=t'}:=I.un (Un.write c d k a)<|I.ak.write c d k a f
def Inv.BD (I:Inv X pins σ H s)(h:∀p∈a,s.heap.get? p.1=al p.2/\H p.1=am/\p.1≠X.env.locals/\p.1∉X.fs/\∀v,p.2.data≠.cell v):Inv X a σ H s :=
 ⟨I.ok,I.os,I.bare,I.base,I.loc,I.cell,I.free,I.hJ,λp b=>(ee.1 b).elim (λz=>I.pin p<|Zl _ z) (h p),I.ak,I.len⟩
def By{N:List e6}(c:N.Nodup){i j:Nat}{x:e6}(a:N[i]?=al x)(b:N[j]?=al x):i=j:=by obtain⟨h1,d⟩:=cm.1 a;obtain⟨h2,e⟩:=cm.1 b;exact (W3 c).1 (d.trans e.symm)
def E2 (I:Inv X pins σ H s)(hN:X.N.Nodup)(G:X.N[i]?=al x)(hx:Loc X.env.scope x)(r:RelV v u)(h:∀s',Inv X pins (σ.set i<|al v) H s'->(∃a,Y3 a s.heap s'.heap/\(a=X.env.locals\/X.env.cells.lookup x=al a))->Q () s')(hf:X.fn x=bi\/X.env.scope.names.lookup x=some .local:=by first|exact ι ρ|exact τ ρ|assumption):hX M A (storeName X.env x u) Q E s:=by
 obtain⟨m,S,hl⟩:=id I.loc;have T:(X.env.scope.kind==.class||(X.env.scope.kind==.module&&X.env.locals != X.env.globals))=bn:=by rw[I.ok.kind];rfl
 have J:i<σ.length:=by rw[I.len];exact (cm.1 G).1
 have kA:=I.kA;have tracked:∀{a:dn}{h':ph},(∃o,s.heap.get? a=al o/\H a=am)->Y3 a s.heap h'->bZ X.prog X.w H h':=λ{a h'} ha f b ob e=>by
  obtain⟨_,_,F⟩:=ha;refine (I.ak b ob e).gp (λc L l q=>(f.2 c ?_).trans q) (λ_ q=>q) λ_ _ q=>q;rintro rfl;rcases l with rfl|l
  ·rw[F] at e;exact nO e
  rw[F] at l;exact nO l
 rcases hx with B|B
 ·refine wpAny_storeName_local B S (λh' UG f=>?_) T;obtain⟨oL,_,_,UH,_⟩:=id S;refine h _ ⟨I.ok,I.os,I.bare,⟨λb o e n C hx=>?_,λb o e n C hx=>?_,I.base.free,λb o e hx=>?_,I.base.jo,I.base.iP,I.base.iM⟩,⟨_,UG,λj y U g t W=>?_⟩,λy c e=>?_,I.free,I.hJ,λp Y=>?_,tracked ⟨oL,UH,I.free⟩ f,by simpa using I.len⟩ ⟨_,f,ι ρ⟩
  ·exact (f.2 b<|hQ<|l4 (gg e) I.ok.above).trans (I.base.keep b o e n C hx)
  ·obtain⟨Z,g⟩:=I.base.slot b o e n C hx;exact⟨Z,(f.2 b<|hQ<|l4 (gg e) I.ok.above).trans g⟩
  ·obtain⟨o',g⟩:=I.base.there b o e hx;exact⟨o',(f.2 b<|hQ<|l4 (gg e) I.ok.above).trans g⟩
  ·by_cases D:j=i
   ·subst D;rw[G] at g;obtain rfl:=sO g;rw[ka J] at t;cases t;exact⟨u,r,ι ⟨B,⋯⟩⟩
   rw[gD (Ne.symm D)] at t;obtain⟨u',r',q⟩:=hl j y U g t W;refine⟨u',r',?_⟩;rcases q with⟨k,e⟩|⟨k,c,e,z⟩
   ·refine ι ⟨k,?_⟩;have:y≠x:=λe=>D (By hN g<|e ▸ G);simp[this,e]
   exact τ ⟨k,c,e,z.sameBut f<|kA y c e⟩
  ·obtain⟨L,z⟩:=I.cell y c e;exact⟨L,z.sameBut f<|kA y c e⟩
  obtain⟨e,n,ne,nf,d⟩:=I.pin p Y;exact⟨(f.2 p.1 ne).trans e,n,ne,nf,d⟩
 have K:X.fn x=bi:=by
  rcases hf with z|z
  ·exact z
  rw[z] at B;contradiction
 obtain⟨c,l⟩:=I.ok.has x<|ι B;obtain⟨L,z⟩:=I.cell x c l;refine wpAny_storeName_cell I.ok.kind B l z<|λh' O f=>?_;obtain⟨oc,P,UD⟩:=id z;refine h {s with heap:=h'} ⟨I.ok,I.os,I.bare,⟨λb o e n C hx=>?_,λb o e n C hx=>?_,I.base.free,λb o e hx=>?_,I.base.jo,I.base.iP,I.base.iM⟩,⟨m,S.sameBut f<|Ne.symm<|kA x c l,λj y U g t W=>?_⟩,λy c' e=>?_,I.free,I.hJ,λp Y=>?_,tracked ⟨oc,P,I.hJ x c l⟩ f,by simpa using I.len⟩ ⟨c,f,τ l⟩
 ·exact (f.2 b<|hQ<|l4 (gg e)<|I.ok.qV x c K l).trans (I.base.keep b o e n C hx)
 ·obtain⟨Z,g⟩:=I.base.slot b o e n C hx;exact⟨Z,(f.2 b<|hQ<|l4 (gg e)<|I.ok.qV x c K l).trans g⟩
 ·obtain⟨o',g⟩:=I.base.there b o e hx;exact⟨o',(f.2 b<|hQ<|l4 (gg e)<|I.ok.qV x c K l).trans g⟩
 ·by_cases D:j=i
  ·subst D;rw[G] at g;obtain rfl:=sO g;rw[ka J] at t;cases t;exact⟨u,r,τ ⟨ι B,c,l,O⟩⟩
  rw[gD (Ne.symm D)] at t;obtain⟨u',r',q⟩:=hl j y U g t W;refine⟨u',r',?_⟩;rcases q with q|⟨k,c',e,z'⟩
  ·exact ι q
  refine τ ⟨k,c',e,z'.sameBut f ?_⟩;rintro rfl;exact D<|By hN g<|I.ok.inj _ _ _ e l ▸ G
 ·by_cases R:c'=c
  ·subst R;exact⟨_,O⟩
  obtain⟨w2,z2⟩:=I.cell y c' e;exact⟨w2,z2.sameBut f R⟩
 obtain⟨e,n,ne,nf,d⟩:=I.pin p Y;refine⟨(f.2 p.1 ?_).trans e,n,ne,nf,d⟩;intro q;rw[q,P] at e;exact d L (by rw[<-(Option.some.inj e)];exact UD)
def FU (I:Inv X pins σ H s)(a:X.N.Nodup)(b:X.N[i]?=al x)(hx:Loc X.env.scope x)(r:RelV v u)(h:∀s',Inv X pins (σ.set i<|al v) H s'->Q () s')(c:X.fn x=bi\/X.env.scope.names.lookup x=some .local:=by first|exact ι ρ|exact τ ρ|assumption):hX M A (storeName X.env x u) Q E s :=
 E2 I a b hx r (λs' d _=>h s' d) c
def Inv.JV (I:Inv X pins σ H s)(d:s'.os=s.os)(u:Un (jy X.stack) ch H H' s.heap s'.heap)(ak:bZ X.prog X.w H' s'.heap)(f:ZP s'.gens)(a:∀b∈ch,(b∈X.ex\/X.eG.heap.objs.size<=b)/\b≠X.env.locals/\(∀x c,X.env.cells.lookup x=al c->c≠b)/\∀p∈X.pn++pins,p.1≠b):Inv X pins σ H' s':=by obtain⟨h',g',d',t',g⟩:=s';have e:=d;subst e;exact I.call u ak f a
end
abbrev XK:=cA->Option dn->Hp->Prop
abbrev St:=List<|Option V
abbrev VK:=V->Hp->Prop
abbrev TE:=St->Hp->VK->Prop
noncomputable abbrev TT:=St->Hp->(Bool->Hp->Prop)->Prop
abbrev TA:=St->Hp->(List V->Hp->Prop)->Prop
structure Ends where
 nx:St->Hp->Prop
 rt:VK
 bk:St->Hp->Prop:=fun _ _=>False
 ct:St->Hp->Prop:=fun _ _=>False
abbrev TS:=Ends->St->Hp->Prop
inductive EP (X:Cx) (pins:List (dn×Th)) (σ:St) (Q:VK) (u:cA) (s':ey):Prop
 | mk (v) (H') (i:Inv X pins σ H' s') (r:RelV v u) (q:Q v H')
def TP(X:Cx)(a:List (dn×Th))(σ:St)(Q:Bool->Hp->Prop)(b:Bool)(s':ey):Prop:=∃H',Inv X a σ H' s'/\Q b H'
inductive AP (X:Cx) (pins:List (dn×Th)) (σ:St) (Q:List V->Hp->Prop) (us:List cA) (s':ey):Prop
 | mk (vs) (H') (i:Inv X pins σ H' s') (r:aC vs us) (q:Q vs H')
def SP(X:Cx)(a:List (dn×Th))(D:Ends)(f:Flow)(s':ey):Prop :=
 match f with
 | .next=>∃σ' H',Inv X a σ' H' s'/\D.nx σ' H'
 | .brk=>∃σ' H',Inv X a σ' H' s'/\D.bk σ' H'
 | .cont=>∃σ' H',Inv X a σ' H' s'/\D.ct σ' H'
 | .ret u=>∃v σ' H',Inv X a σ' H' s'/\RelV v u/\D.rt v H'
def PE(X:Cx)(e:hH)(t:TE):Prop :=
 ∀(a:List (dn×Th)) (s:ey) (σ:St) (H:Hp) (Q:VK),Inv X a σ H s->t σ H Q->hX (k5 X.prog X.w) X.A (eval e X.env) (EP X a σ Q) X.xe s
def PT(X:Cx)(e:hH)(t:TT):Prop :=
 ∀(a:List (dn×Th)) (s:ey) (σ:St) (H:Hp) (Q:Bool->Hp->Prop),Inv X a σ H s->t σ H Q->hX (k5 X.prog X.w) X.A (abB e X.env<|eval e X.env) (TP X a σ Q) X.xe s
def PW(X:Cx)(e:hH)(t:TT):Prop :=
 ∀(b:Sem cA) (a:List (dn×Th)) (s:ey) (σ:St) (H:Hp) (Q:Bool->Hp->Prop),Inv X a σ H s->t σ H Q->hX (k5 X.prog X.w) X.A (abB e X.env b) (TP X a σ Q) X.xe s
def PW.pt (h:PW X e t):PT X e t:=h _
def PA(X:Cx)(b:List hH)(t:TA):Prop :=
 ∀(pos:H9) (a:List (dn×Th)) (s:ey) (σ:St) (H:Hp) (Q:List V->Hp->Prop),Inv X a σ H s->t σ H Q->hX (k5 X.prog X.w) X.A (spliced<|XG pos<|nk b X.env) (AP X a σ Q) X.xe s
def PS(X:Cx)(st:Xs)(t:TS):Prop :=
 ∀(a:List (dn×Th)) (s:ey) (σ:St) (H:Hp) (D:Ends),Inv X a σ H s->t D σ H->hX (k5 X.prog X.w) X.A (exec st X.env) (SP X a D) X.xe s
def dF(X:Cx)(st:List Xs)(t:TS):Prop :=
 ∀(a:List (dn×Th)) (s:ey) (σ:St) (H:Hp) (D:Ends),Inv X a σ H s->t D σ H->hX (k5 X.prog X.w) X.A (execs st X.env) (SP X a D) X.xe s
def aD (h:hX M A t Q E s)(d:∀a s,Q a s->c a s):hX M A t c E s:=W7 h d λ_ _ x=>x
section
variable{X:Cx}
def ff(i:Nat):TE:=fun σ H Q=>∃v,σ[i]?=al (al v)/\Q v H
def tC(v:V):TE:=λ_ H Q=>Q v H
def fh (k:X.N[i]?=al x)(n:cj X.env.scope x)(hd:bD x:=by decide)(g:cH x:=by decide):PE X (.Name x pos) (ff i):=by
 intro f s σ H Q I h;obtain⟨v,e,h⟩:=h;obtain⟨m,o,hl⟩:=I.loc;obtain⟨u,r,l⟩:=hl i x v k e n;have d:EP X f σ Q u s:=⟨v,H,I,r,h⟩;rcases l with⟨a,p⟩|⟨a,c,j,b⟩
 ·exact ace (wpAny_loadName_local I.ok.kind a o p d) hd
 rcases a with a|a
 ·exact ace (wpAny_loadName_cell I.ok.kind a j b d) hd
 exact ace (wpAny_loadName_free I.ok.kind a j b d g) hd
def F0{b j pos}:PE X (.Constant (.bool b) j pos) (tC<|.bl b):=λ_ _ _ H _ I h=>Constant_bool ⟨.bl b,H,I,ρ,h⟩
def yg{x j pos}:PE X (.Constant (.str x) j pos) (tC<|.str x):=λ_ _ _ H _ I h=>Calls.Constant_str ⟨.str x,H,I.tok _,⟨_,ρ⟩,h⟩
def Gl(X:Cx)(x:e6):Prop:=X.env.kindOf x=some .globalImplicit
def En (I:Inv X a σ H s)(b:Gl X x)(c:X.mg x=al u)(h:Q u s)(hd:bD x:=by decide):hX (k5 X.prog X.w) X.A (eval (.Name x pos) X.env) Q E s :=
 aay I.ok.kind b (Calls.loadGlobal_global (by rw[I.ok.glob];exact I.mod.glob.keeps I.bk) c h) hd
def pz (I:Inv X a σ H s)(b:Gl X x)(c:X.mg x=am)(d:Xf x=al u)(h:Q u s)(e:x≠"__name__":=by decide)(hd:bD x:=by decide):hX (k5 X.prog X.w) X.A (eval (.Name x pos) X.env) Q E s:=by obtain⟨mb,f,g⟩:=I.mod.blt;exact aay I.ok.kind b (Calls.loadGlobal_builtin (by rw[I.ok.glob];exact I.mod.glob.keeps I.bk) c (by rw[I.ok.blt];exact f.keeps I.bk) ((g x e).trans d) h) hd
def DR (a:Gl X x)(b:X.mg x=al u)(r:RelV v u)(hd:bD x:=by decide):PE X (.Name x pos) (tC v) :=
 λ_ _ _ H _ I h=>En I a b ⟨v,H,I,r,h⟩ hd
def KN (a:Gl X x)(b:X.mg x=am)(c:Xf x=al u)(r:RelV v u)(d:x≠"__name__":=by decide)(hd:bD x:=by decide):PE X (.Name x pos) (tC v) :=
 λ_ _ _ H _ I h=>pz I a b c ⟨v,H,I,r,h⟩ d hd
variable{a b:hH}{ta tb:TE}{pos:H9}
variable{tA tB':TT}{rest:List hH}
def K1(t u:TT):TT:=fun σ H Q=>t σ H λc d=>if c=bi then u σ d Q else Q false d
def Sx(t u:TT):TT:=fun σ H Q=>t σ H λc d=>if c=bi then Q true d else u σ d Q
def uA(t:TT):TT:=fun σ H Q=>t σ H λc d=>Q (!c) d
theorem JK(f:PT X a tA):PW X (.BoolOp .And [a] pos) tA:=by
 refine λwh d s σ H Q I h=>isTrue_and (aD (f d s σ H Q I h) λc s1 e=>?_);cases c with
 | true=>exact isTrue_and_nil e
 | false=>exact e
theorem Tt(f:PT X a tA):PW X (.BoolOp .Or [a] pos) tA:=by
 refine λwh d s σ H Q I h=>isTrue_or (aD (f d s σ H Q I h) λc s1 e=>?_);cases c with
 | false=>exact isTrue_or_nil e
 | true=>exact e
theorem LQ(i:PT X a tA)(j:PW X (.BoolOp .And (b::rest) pos) tB'):PW X (.BoolOp .And (a::b::rest) pos) (K1 tA tB'):=by
 refine λk d s σ H Q I h=>isTrue_and (aD (i d s σ H _ I h) λc l q=>?_);obtain⟨e,f,g⟩:=q;cases c with
 | true=>exact j k d l σ e Q f g
 | false=>exact⟨e,f,g⟩
theorem QV(i:PT X a tA)(j:PW X (.BoolOp .Or (b::rest) pos) tB'):PW X (.BoolOp .Or (a::b::rest) pos) (Sx tA tB'):=by
 refine λk d s σ H Q I h=>isTrue_or (aD (i d s σ H _ I h) λc l q=>?_);obtain⟨e,f,g⟩:=q;cases c with
 | true=>exact⟨e,f,g⟩
 | false=>exact j k d l σ e Q f g
def QI{op}(h:PE X a t):PE X (.BoolOp op [a] pos) t:=λc s σ H Q I hw=>BoolOp_one<|h c s σ H Q I hw
end
def bA(K:ft)(H:Hp)(a:dn)(xs:List V):Prop :=
 Rd H a (.L xs) \/
  ∃(o:Th) (its:Array cA) (n:Nat),K.lookup a=al o/\o.cls=.type "list"/\o.dict=am/\o.data=.seq its n/\its.size<=dk/\aC xs its.toList
def aS(K:ft)(H:Hp)(a:dn)(xs:List V):Prop :=
 Rd H a (.U xs) \/
  ∃(o:Th) (its:Array cA) (n:Nat),K.lookup a=al o/\o.cls=.type "tuple"/\o.data=.seq its n/\its.size<=dk/\aC xs its.toList
noncomputable def R4:cA->Option V
 | .none=>some .aU
 | .bool b=>al (.bl b)
 | .int i _=>al (.int i)
 | .str x _=>al (.str x)
 | .bytes b _=>al (.tJ b)
 | .float b _=>al (.yw b)
 | .ref a=>al (.ref a)
 | .type n=>al (.ty n)
 | _=>am
theorem RelV.abs (r:RelV x u):R4 u=al x:=by
 cases x with
 | aU=>subst r;rfl
 | bl _=>subst r;rfl
 | int _=>obtain⟨t,rfl⟩:=r;rfl
 | str _=>obtain⟨t,rfl⟩:=r;rfl
 | tJ _=>obtain⟨t,rfl⟩:=r;rfl
 | yw _=>obtain⟨t,rfl⟩:=r;rfl
 | ref _=>subst r;rfl
 | ty _=>subst r;rfl
def RelV.inj (r:RelV x u)(q:RelV y u):x=y:=Option.some.inj<|r.abs.symm.trans q.abs
theorem aC.inj (h:aC xs us)(h':aC ys us):xs=ys:=by
 induction h generalizing ys with
 | nil=>cases h';rfl
 | cons r t a =>
  cases h' with
  | cons b t'=>rw[r.inj b,a t']
section
variable{X:Cx}{pins:List (dn×Th)}{σ:St}{H:Hp}{s:ey}{a:dn}{xs ys:List V}{E:cA->ey->Prop}
def bA.of{K:ft}(h:H a=al (.L xs)):bA K H a xs:=ι<|ι h
def aS.of{K:ft}(h:H a=al (.U xs)):aS K H a xs:=ι<|ι h
def Inv.list(I:Inv X pins σ H s)(h:bA X.K H a xs):∃its:List cA,aC xs its/\PlainL s.heap a its.toArray/\xs.length<=sizeLine:=by
 rcases h with h|⟨o,its,n,b,c,hd,d,hz,r⟩
 ·obtain⟨z,its,n,r,e⟩:=h.ok I.ak;exact⟨its,r,⟨_,n,e,ρ,ρ,ρ⟩,z⟩
 refine⟨its.toList,r,⟨o,n,I.ik a o b,c,hd,by simpa using d⟩,?_⟩;have e:=r.length;simp_all
def Inv.tuple(I:Inv X pins σ H s)(h:aS X.K H a xs):∃its:List cA,aC xs its/\Yk s.heap a its.toArray/\xs.length<=sizeLine:=by
 rcases h with h|⟨o,its,n,b,c,d,hz,r⟩
 ·obtain⟨z,its,r,p⟩:=h.ok I.ak;exact⟨its,r,p,z⟩
 refine⟨its.toList,r,⟨o,I.ik a o b,c,n,by simpa using d⟩,?_⟩;have e:=r.length;simp_all
def Inv.Qy(I:Inv X pins σ H s)(h:bA X.K H a xs)(h':bA X.K H a ys):xs=ys:=by
 obtain⟨its,r,⟨o,n,e,_,_,d⟩,_⟩:=I.list h;obtain⟨its',c,⟨o',n',b,_,_,d'⟩,_⟩:=I.list h';rw[e] at b;obtain rfl:=sO b;rw[d] at d';injection d' with f _;have:its=its':=by simpa using congrArg acs f
 subst this;exact r.inj c
def Inv.J5(I:Inv X pins σ H s)(h:aS X.K H a xs)(h':aS X.K H a ys):xs=ys:=by
 obtain⟨its,r,⟨o,e,_,n,d⟩,_⟩:=I.tuple h;obtain⟨its',c,⟨o',b,_,n',d'⟩,_⟩:=I.tuple h';rw[e] at b;obtain rfl:=sO b;rw[d] at d';injection d' with f _;have:its=its':=by simpa using congrArg acs f
 subst this;exact r.inj c
abbrev Cx.ke(X:Cx)(E:cA->ey->Prop):Cx:={X with xe:=E}
abbrev Cx.jA(X:Cx):Cx:=X.ke λ_ _=>False
def Cx.Ok.ke (ok:X.Ok)(E:cA->ey->Prop):(X.ke E).Ok :=
 ⟨ok.mod,ok.kind,ok.glob,ok.blt,ok.above,ok.inj,ok.has,ok.qV,ok.hd,ok.frames,ok.vY,ok.F3,ok.bs,ok.mf,ok.tG,ok.uk,ok.jO,ok.pZ⟩
def Cx.Ok.mo (ok:(X.ke E).Ok):X.Ok :=
 ⟨ok.mod,ok.kind,ok.glob,ok.blt,ok.above,ok.inj,ok.has,ok.qV,ok.hd,ok.frames,ok.vY,ok.F3,ok.bs,ok.mf,ok.tG,ok.uk,ok.jO,ok.pZ⟩
def Inv.ke(I:Inv X pins σ H s)(E:cA->ey->Prop):Inv (X.ke E) pins σ H s:=⟨I.ok.ke E,I.os,I.bare,I.base,I.loc,I.cell,I.free,I.hJ,I.pin,I.ak,I.len⟩
def Inv.mo(I:Inv (X.ke E) pins σ H s):Inv X pins σ H s:=⟨I.ok.mo,I.os,I.bare,I.base,I.loc,I.cell,I.free,I.hJ,I.pin,I.ak,I.len⟩
theorem SP.mo (h:SP (X.ke E) pins D f s'):SP X pins D f s':=by
 cases f with
 | next=>obtain⟨σ',H',I,q⟩:=h;exact⟨σ',H',I.mo,q⟩
 | brk=>obtain⟨σ',H',I,q⟩:=h;exact⟨σ',H',I.mo,q⟩
 | cont=>obtain⟨σ',H',I,q⟩:=h;exact⟨σ',H',I.mo,q⟩
 | ret u=>obtain⟨v,σ',H',I,r,q⟩:=h;exact⟨v,σ',H',I.mo,r,q⟩
def dF.jA{st:List Xs}{t:TS}(h:dF X.jA st t):dF X st t:=λpins s σ H D I hw =>
 W7 (h pins s σ H D (I.ke _) hw) (λ_ _ q=>q.mo) λ_ _ z=>Xt z
end
section
variable{X:Cx}{st:Xs}{rest:List Xs}{t u:TS}{e:hH}{te:TE}{pos:H9}
def Bp:TS:=λD σ H=>D.nx σ H
def kY(t u:TS):TS:=λD σ H=>t {D with nx:=u D} σ H
def F4:dF X [] Bp:=λ_ _ σ H _ I h=>Zr ⟨σ,H,I,h⟩
theorem jq(b:PS X st t)(c:dF X rest u):dF X (st::rest) (kY t u):=by
 refine λa s σ H D I h=>acE (aD (b a s σ H {D with nx:=u D} I h) λf d q=>?_);cases f with
 | next=>obtain⟨σ',H',g,q⟩:=q;exact c a d σ' H' D g q
 | ret v=>exact q
 | brk=>exact q
 | cont=>exact q
theorem oE(b:PS X st t):dF X [st] t:=by
 intro a s σ H D I h;refine acE (aD (b a s σ H D I h) fun f s1 q=>?_);cases f with
 | next=>exact Zr q
 | ret v=>exact q
 | brk=>exact q
 | cont=>exact q
def Inv.quiet (I:Inv X a σ H s):interactive X.env=bn:=by simp[interactive,I.ok.kind]
def sd(te:TE):TS:=λD σ H=>te σ H λ_ a=>D.nx σ a
def vR(b:PE X e te)(c:Fs e am pos.line X.env=pure false:=by rfl):PS X (.Expr e pos) (sd te):=by exact λa s σ H D I h=>wpAny_Expr_any (aD (b a s σ H _ I h) λv s1 ⟨x,d,f,r1,g⟩=>⟨σ,d,f,g⟩) I.quiet c
def x5(te:TE):TS:=λD σ H=>te σ H D.rt
def vC(b:PE X e te):PS X (.Return (al e) pos) (x5 te):=by exact λa s σ H D I h=>wpAny_Return_some (aD (b a s σ H _ I h) λv s1 ⟨x,c,d,f,g⟩=>⟨x,σ,c,d,f,g⟩)
def EX(c:TT)(t u:TS):TS:=λD σ H=>c σ H λb a=>if b=bi then t D σ a else u D σ a
theorem D8 (l:PT X c tc)(m:dF X a t)(n:dF X b u):PS X (.If c a b pos) (EX tc t u):=by
 refine λf s σ H D I h=>wpAny_If (aD (l f s σ H _ I h) λd g e=>?_);obtain⟨i,j,k⟩:=e;cases d with
 | true=>exact m f g σ i D j k
 | false=>exact n f g σ i D j k
end
abbrev TG:=V->St->Hp->(St->Hp->Prop)->Prop
abbrev jE:=List V->St->Hp->(St->Hp->Prop)->Prop
def PG(X:Cx)(target:hH)(t:TG):Prop :=
 ∀(a:List (dn×Th)) (s:ey) (σ:St) (H:Hp) (v:V) (u:cA) (Q:St->Hp->Prop),Inv X a σ H s->RelV v u->t v σ H Q ->
  hX (k5 X.prog X.w) X.A (Ya target X.env u) (λ_ s'=>∃σ' H',Inv X a σ' H' s'/\Q σ' H') X.xe s
def pK(X:Cx)(b:List hH)(t:jE):Prop :=
 ∀(a:List (dn×Th)) (s:ey) (σ:St) (H:Hp) (vs:List V) (us:List cA) (Q:St->Hp->Prop),Inv X a σ H s->aC vs us->t vs σ H Q ->
  hX (k5 X.prog X.w) X.A (assignInOrder ((t9 b X.env).map (·.2)) us) (λ_ s'=>∃σ' H',Inv X a σ' H' s'/\Q σ' H') X.xe s
abbrev yB:=V->V->V->Hp->(Hp->Prop)->Prop
def BI(X:Cx)(t:yB):Prop :=
 ∀(a:List (dn×Th)) (s:ey) (σ:St) (H:Hp) (o i v:V) (b c u:cA) (Q:Hp->Prop),Inv X a σ H s->RelV o b->RelV i c->RelV v u->t o i v H Q ->
  hX (k5 X.prog X.w) X.A (abx b c u) (λ_ s'=>∃H',Inv X a σ H' s'/\Q H') X.xe s
section
variable{X:Cx}{pos:H9}
def gV(i:Nat):TG:=λv σ H Q=>Q (σ.set i<|al v) H
def mI (a:X.N.Nodup)(b:X.N[i]?=al x)(hx:Loc X.env.scope x)(c:X.fn x=bi\/X.env.scope.names.lookup x=some .local:=by first|exact ι ρ|exact τ ρ|assumption):PG X (.Name x pos) (gV i):=by exact λpins s σ H v u Q I r h=>acu<|FU I a b hx r (λs' d=>⟨_,H,d,h⟩) c
def Ba:jE:=λvs σ H Q=>vs=[]/\Q σ H
def rJ(t:TG)(u:jE):jE:=λvs σ H Q=>∃v r,vs=v::r/\t v σ H fun σ' H'=>u r σ' H' Q
def xc:pK X [] Ba:=by intro pins s σ H vs us Q I r h;obtain⟨e,h⟩:=h;subst e;cases r;exact assignInOrder_nil ⟨σ,H,I,h⟩
theorem sN (d:PG X e t)(f:pK X b u)(g:(t9 (e::b) X.env).map (·.2)=Ya e X.env::(t9 b X.env).map (·.2):=by rfl):pK X (e::b) (rJ t u):=by
 intro a s σ H vs us Q I r h;obtain⟨v,vr,i,h⟩:=h;subst i;cases r with
 | cons r j=>rw[g];refine assignInOrder_cons (aD (d a s σ H _ _ _ I r h) λ_ k g=>?_);obtain⟨c,l,m,n⟩:=g;exact f a k c l _ _ Q m j n
def yZ(K:ft)(n:Nat)(t:jE):TG:=λv σ H Q=>∃a xs,v=.ref a/\aS K H a xs/\xs.length=n/\t xs σ H Q
def zD (i:X.calm=bi)(h:pK X d t)(j:(t9 d X.env).length=n:=by rfl)(f:(t9 d X.env).findIdx? (·.1)=am:=by rfl):PG X (.Tuple d k pos) (yZ X.K n t):=by intro c s σ H v u Q I r hw;obtain⟨a,xs,l,m,hl,hw⟩:=hw;subst l;subst r;obtain⟨its,g,p,hz⟩:=I.tuple m;refine assign_Tuple_tuple (I.ok.hd i) p (by simp[j,<-hl,g.length]) f λh' hx=>?_;have q:=I.kept (t':=s.toks) λb o e=>hx b o (hQ<|gg e) e;exact h c _ σ H xs _ Q q (g) hw
def Lv(to a:TE)(t:yB):TG:=λv σ H Q=>to σ H λo b=>a σ b λi c=>t o i v c λd=>Q σ d
def HQ (e:PE X o to)(f:PE X i d)(g:BI X t)(j:∀v,Ya (.Subscript o i pos) X.env v=(do
   let b <-XY [v] (eval o X.env);let c <-XY [v,b] (eval i X.env)
   aaT pos
   XY [v,b,c] (abx b c v)
   release [v,b,c] []):=by intro _;rfl):PG X (.Subscript o i pos) (Lv to d t):=by
 intro a s σ H v u Q I r h;rw[j];refine cW<|u5 (aD (e a s σ H _ I h) λb k g=>?_);obtain⟨x,l,m,n,p⟩:=g;refine cW<|u5 (aD (f a k σ l _ m p) λc q h=>?_);obtain⟨y,w,z,A,B⟩:=h;refine cW<|ZZ<|cW<|u5 (aD (g a q σ w x y v b c u _ z n A r B) λ_ s3 h=>?_);obtain⟨C,D,E⟩:=h;exact wpAny_release ⟨σ,C,D,E⟩
def nF(te:TE)(g:TG):TS:=λD σ H=>te σ H λx a=>g x σ a D.nx
def Cj (c:PE X e te)(d:PG X a g)(f:Y8 [a] e pos.line X.env=pure false:=by rfl)(hw:Y9 [a] e X.env=pure am:=by rfl)(i:(t9 [a] X.env).map (·.2)=[Ya a X.env]:=by rfl):PS X (.Assign [a] e pos) (nF te g):=by refine λb s σ H D I h=>wpAny_Assign_stores (aD (c b s σ H _ I h) λv j g=>?_) f hw;obtain⟨x,k,l,m,n⟩:=g;rw[i];exact aD (d b j σ k x v _ l m n) λ_ s2 q=>q
def BV (c:X.N.Nodup)(d:X.N[i]?=al x)(hx:Loc X.env.scope x)(f:PE X e te)(g:Fs e (al<|.Name x a) pos.line X.env=pure false:=by rfl)(j:X.fn x=bi\/X.env.scope.names.lookup x=some .local:=by first|exact ι ρ|exact τ ρ|assumption) :
  PS X (.Assign [.Name x a] e pos) (nF te<|gV i):=by
 refine λb s σ H D I h=>wpAny_Assign_Name (aD (f b s σ H _ I h) λv s1 e=>?_) g;obtain⟨y,k,l,m,n⟩:=e;exact FU l c d hx m (λs2 o=>⟨_,k,o,n⟩) j
def Lw(c:TT)(e:TS):TS:=λD σ H=>∃W:Nat->St->Hp->Prop,(∃m,W m σ H)/\∀m σ H,W m σ H ->
 c σ H λb a=>if b=bi then ∃N:St->Hp->Prop,(∀σ' H',N σ' H'->∃d,d<m/\W d σ' H')/\e {D with nx:=N,ct:=N,bk:=D.nx} σ a else D.nx σ a
theorem J3 (r:ZN (k5 X.prog X.w) X.A X.env X.xe)(z:PT X c tc)(B:dF X body q):PS X (.While c body [] pos) (Lw tc q):=by
 intro d s σ H D I h;obtain⟨W,⟨C,E⟩,turn⟩:=h;refine wpAny_While<|codeAny_whileLoop (λn s'=>∃σ' H',Inv X d σ' H' s'/\W n σ' H') ?_ C ⟨σ,H,I,E⟩;rintro n F ⟨e,t,G,J⟩;refine XM r (aD (z d F e t _ G<|turn n e t J) λb K h=>?_);obtain⟨u,x,i⟩:=h;cases b with
 | true =>
  obtain⟨N,y,i⟩:=i;refine XM r (aD (B d K e u _ x i) λf s3 j=>?_);cases f with
  | next=>obtain⟨a,g,k,l⟩:=j;obtain⟨m,o,p⟩:=y a g l;exact⟨m,o,a,g,k,p⟩
  | cont=>obtain⟨a,g,k,l⟩:=j;obtain⟨m,o,p⟩:=y a g l;exact⟨m,o,a,g,k,p⟩
  | brk=>exact j
  | ret v=>exact j
 | false=>exact Zr ⟨e,u,x,i⟩
end
structure It where
 go:Nat->Hp->Prop
 mE:Nat->Hp->V->Hp->Prop
 stop:Nat->Hp->Prop
def jS(X:Cx)(a:List (dn×Th))(H:Hp)(b:dn):Prop :=
 H b=am/\b≠X.env.locals/\b∉X.fs/\(b∈X.ex\/X.eG.heap.objs.size<=b)/\(∀x c,X.env.cells.lookup x=al c->c≠b)/\∀p∈X.pn++a,p.1≠b
def Inv.mm (I:Inv X a σ H s)(d:s.heap.objs.size<=b)(f:H' b=am):jS X a H' b:=by
 refine⟨f,ZX<|l4 I.lt d,I.N3 d,τ<|ia I.sz d,λx c e z=>?_,λp g z=>?_⟩
 ·obtain⟨v,q⟩:=I.cell x c e;exact absurd (l4 q.lt (by rw[z];exact d))<|z9 _
 exact absurd (l4 (gg (I.pin p g).1) (by rw[z];exact d))<|z9 _
structure Turn (P:kH) (w:pe) (K:ft) (tg:hH) (J:It) (fp:List dn) (it:dn) (tn:Nat->ph->Prop):Prop where
 mem:it∈fp
 obj:∀i h,tn i h->∀b∈fp,∃o,h.get? b=al o/\∀v,o.data≠.cell v
 keep:∀i h h',tn i h->(∀b∈fp,∀o,h.get? b=al o->h'.get? b=al o)->tn i h'
 item:∀(X:Cx),X.prog=P->X.w=w->X.K=K->X.calm=bi->∀(i:Nat) (pins:List (dn×Th)) (s:ey) (σ:St) (H:Hp) (E:cA->ey->Prop),Inv X pins σ H s->(∀b∈fp,jS X pins H b)->tn i s.heap->J.go i H ->
  hX (k5 P w) X.A (Zn<|.ref it) (fun r s1=>∃u,r=al u /\
   hX (k5 P w) X.A (Zt tg (.ref it) u) (fun _ s2=>∃x H',Inv X pins σ H' s2/\RelV x u/\J.mE i H x H'/\tn (i+1) s2.heap/\∀b∈fp,H' b=am) E s1) E s
 done:∀(X:Cx),X.prog=P->X.w=w->X.K=K->X.calm=bi->∀(i:Nat) (pins:List (dn×Th)) (s:ey) (σ:St) (H:Hp) (E:cA->ey->Prop),Inv X pins σ H s->(∀b∈fp,jS X pins H b)->tn i s.heap->J.stop i H ->
  hX (k5 P w) X.A (Zn<|.ref it) (fun r s1=>r=am/\Inv X pins σ H s1) E s
 self:∀(A:qp) (i:Nat) (s:ey) (Q:cA->ey->Prop) (E:cA->ey->Prop),tn i s.heap->Q (.ref it) s->hX (k5 P w) A (acg<|.ref it) Q E s
abbrev TI:=St->Hp->(It->Hp->Prop)->Prop
def Gs(X:Cx)(a:List (dn×Th))(σ:St)(g:hH)(R:It->Hp->Prop)(c:cA)(d:ey):Prop :=
 ∃(it:dn) (e:List dn) (f:Nat->ph->Prop) (J:It) (H':Hp),c=.ref it/\Inv X a σ H' d/\Turn X.prog X.w X.K g J e it f/\f 0 d.heap/\(∀b∈e,jS X a H' b)/\R J H'
def PI(X:Cx)(b iter:hH)(c:TI):Prop :=
 ∀(a:List (dn×Th)) (s:ey) (σ:St) (H:Hp) (R:It->Hp->Prop),Inv X a σ H s->c σ H R ->
  hX (k5 X.prog X.w) X.A (eval iter X.env) (λv d=>hX (k5 X.prog X.w) X.A (acg v) (Gs X a σ b R) X.xe d) X.xe s
theorem qx (c:s.heap.get? it=al o)(d:o.cls=.type n)(hd:o.data=.fields vs)(e:["enumerate","zip","dict_itemiterator","dict_reverseitemiterator","odict_iterator","itertools.zip_longest","itertools.pairwise"].contains n=bn)(a:Q () s):hX M A (Zt b (.ref it) u) Q E s:=by
  cases b<;>first
    | exact fm a
    | (cases u<;>first
        | exact fm a
        | (refine cW (wpAny_load c ?_)
           rw[d,hd];show hX M A (if (["enumerate","zip","dict_itemiterator","dict_reverseitemiterator","odict_iterator","itertools.zip_longest","itertools.pairwise"].contains n&&vs[0]?==al (abz _))=bi then _ else _) Q E s;rw[if_neg (by intro h;rw[e,Bool.false_and] at h;contradiction)]
           exact fm a))
noncomputable def qR(K:ft)(a:dn):It :=
 ⟨λi H=>∃xs x,bA K H a xs/\xs[i]?=al x,λi H x H'=>H'=H/\∀xs,bA K H a xs->xs[i]?=al x,λi H=>∃xs,bA K H a xs/\xs.length<=i⟩
noncomputable def Dm(K:ft)(a:dn):It :=
 ⟨λi H=>∃xs x,aS K H a xs/\xs[i]?=al x,λi H x H'=>H'=H/\∀xs,aS K H a xs->xs[i]?=al x,λi H=>∃xs,aS K H a xs/\xs.length<=i⟩
noncomputable def p6(lo:Int)(n:Nat):It:=⟨λi _=>i<n,λi H x H'=>H'=H/\x=.int (lo+i),λi _=>n<=i⟩
def J1{P:kH}{w:pe}{K:ft}{G:hH}(a it:dn):Turn P w K G (qR K a) [it] it (λi h=>h.IsListIter it a i) where
 mem:=by simp
 obj:=λi h st b f=>by
  have e:b=it:=by simpa using f
  subst e;obtain⟨o,e,c,d⟩:=st;exact⟨o,e,λv z=>by rw[d] at z;contradiction⟩
 keep:=λi h h' st k=>st.at λo e=>k it (by simp) o e
 item:=by intro X n hw q F i g s σ H E I j st r;subst n hw q;obtain⟨xs,x,l,hx⟩:=r;obtain⟨its,t,p,J⟩:=I.list l;obtain⟨u,L,M⟩:=t.get hx;obtain⟨y,A,N,B,C,D⟩:=j it (by simp);refine wpAny_pyNext_list_item st p.isList (by simpa using L) λh' m O=>?_;have Q:=I.turned (t':=s.toks) (λb o f e=>(O.2 b f).trans e) y A B C D;obtain⟨o,e,c,d⟩:=id m;exact⟨u,ρ,qx e c d ρ ⟨x,H,Q,M,⟨ρ,λys R=>by rw[I.Qy R l];exact hx⟩,m,λb f=>(j b f).1⟩⟩
 done:=by intro X n hw q F i g s σ H E I j st r;subst n hw q;obtain⟨xs,l,hx⟩:=r;obtain⟨its,t,p,J⟩:=I.list l;obtain⟨y,A,N,B,C,D⟩:=j it (by simp);have hl:=t.length;exact wpAny_pyNext_list_end (I.ok.hd F) st p.isList (by simp;omega) λh' S=>⟨ρ,I.turned (λb o f e=>S b o f e) y A B C D⟩
 self:=λ_ _ _ _ _ st h=>wpAny_pyIter_listiter st h
def LW{P:kH}{w:pe}{K:ft}{D:hH}(a it:dn):Turn P w K D (Dm K a) [it] it (λi h=>h.IsTupleIter it a i) where
 mem:=⋯
 obj:=λi h st b f=>by
  have e:b=it:=by simpa using f
  subst e;obtain⟨o,e,c,d⟩:=st;exact⟨o,e,by lia⟩
 keep:=λi h h' st k=>st.at λo e=>k it ⋯ o e
 item:=by intro X n hw q C i g s σ H E I j st r;subst n hw q;obtain⟨xs,x,l,hx⟩:=r;obtain⟨its,t,p,F⟩:=I.tuple l;obtain⟨u,G,J⟩:=t.get hx;obtain⟨v,y,L,z,A,B⟩:=j it ⋯;refine wpAny_pyNext_tuple_item st (p) (by simpa using G) λh' m M=>?_;have N:=I.turned (t':=s.toks) (λb o f e=>(M.2 b f).trans e) v y z A B;obtain⟨o,e,c,d⟩:=id m;exact⟨u,ρ,qx e c d ρ ⟨x,H,N,J,⟨ρ,λys O=>by rw[I.J5 O l];exact hx⟩,m,λb f=>(j b f).1⟩⟩
 done:=by intro X n hw q C i g s σ H E I j st r;subst n hw q;obtain⟨xs,l,hx⟩:=r;obtain⟨its,t,p,F⟩:=I.tuple l;obtain⟨v,y,L,z,A,B⟩:=j it ⋯;have hl:=t.length;exact wpAny_pyNext_tuple_end (I.ok.hd C) st (p) (by simp;omega) λh' Q=>⟨ρ,I.turned (λb o f e=>Q b o f e) v y z A B⟩
 self:=λ_ _ _ _ _ st h=>wpAny_pyIter_tupleiter st h
def M3{P:kH}{w:pe}{K:ft}{y:hH}(it:dn)(lo:Int)(n:Nat):Turn P w K y (p6 lo n) [it] it (λi h=>IsRangeIter h it (lo+(i:Nat)*1) ((n:Int)-(i:Nat)) 1) where
 mem:=by simp
 obj:=λi h st b a=>by
  have e:b=it:=by simpa using a
  subst e;exact⟨_,st,λv z=>by have z':Data.fields _=Data.cell v:=z;contradiction⟩
 keep:=λi h h' st k=>k it (by simp) _ st
 item:=by intro X g hw j l i c s σ H E I d st m;subst g hw j;obtain⟨p,q,A,r,u,x⟩:=d it (by simp);have W:=Walks.range (prog:=X.prog) (w:=X.w) (I.ok.hd l) it lo 1 n;refine W.item i s _ _ m st λv h' tk B f C=>?_;obtain⟨t,rfl⟩:=B;have D:Inv X c σ H {s with heap:=h',toks:=tk}:=I.turned (λb o a e=>C b o (by simpa using a) e) p q r u x;refine⟨_,ρ,qx f ρ ρ ρ ⟨.int<|lo+i,H,D,⟨t,?_⟩,⟨ρ,ρ⟩,f,λb a=>(d b a).1⟩⟩;rw[Int.mul_one]
 done:=by intro X g hw j l i c s σ H E I d st m;obtain⟨p,q,A,r,u,x⟩:=d it (by simp);exact wpAny_pyNext_range_end (I.ok.hd l) st (by have:n<=i:=m;omega) λh' F=>⟨ρ,I.turned (λb o a e=>F b o a e) p q r u x⟩
 self:=λ_ _ _ _ _ st h=>wpAny_pyIter_rangeiter st h
section
variable{X:Cx}{tg:hH}
def pW(K:ft)(c:TE):TI:=fun σ H R=>c σ H λx b=>∃a,x=.ref a/\(∃xs,bA K b a xs)/\R (qR K a) b
def SW(K:ft)(c:TE):TI:=fun σ H R=>c σ H λx b=>∃a,x=.ref a/\(∃xs,aS K b a xs)/\R (Dm K a) b
def oH (hl:PE X l g):PI X tg l (pW X.K g):=by
 refine λf s σ H R I h=>aD (hl f s σ H _ I h) λv c g=>?_;obtain⟨x,i,d,j,k⟩:=g;obtain⟨a,e,⟨xs,m⟩,q⟩:=k;subst e;subst j;obtain⟨its,rv,p,hz⟩:=d.list m;apply XQ p.isList;refine⟨c.heap.objs.size,[c.heap.objs.size],_,_,i,ρ,d.kept λb o e=>e7 _ e,J1 a _,⟨_,ib _ ρ,ρ,ρ⟩,λb n=>?_,q⟩;have e:b=c.heap.objs.size:=by simpa using n
 subst e;exact d.mm (fj _)<|d.ak.fresh<|fj _
def IK (hl:PE X l g):PI X tg l (SW X.K g):=by
 refine λf s σ H R I h=>aD (hl f s σ H _ I h) λv c g=>?_;obtain⟨x,i,d,j,k⟩:=g;obtain⟨a,e,⟨xs,m⟩,q⟩:=k;subst e;subst j;obtain⟨its,rv,p,hz⟩:=d.tuple m;apply wpAny_pyIter_tuple<|p;refine⟨c.heap.objs.size,[c.heap.objs.size],_,_,i,ρ,d.kept λb o e=>e7 _ e,LW a _,⟨_,ib _ ρ,ρ,ρ⟩,λb n=>?_,q⟩;have e:b=c.heap.objs.size:=by simpa using n
 subst e;exact d.mm (fj _)<|d.ak.fresh<|fj _
def Bv{c:List (dn×Th)}{σ:St}{H:Hp}{s:ey}{R:It->Hp->Prop}{E:cA->ey->Prop}{lo a:Int}{t u v:Tok}{tk:Nat}(I:Inv X c σ H s)(f:-(2 ^ 62)<=lo)(g:lo<2 ^ 62)(h:-(2 ^ 62)<=a)(i:a<2 ^ 62)
 (q:R (p6 lo (a-lo).toNat) H):hX (k5 X.prog X.w) X.A (acg<|.ref s.heap.objs.size) (Gs X c σ tg R) E {s with heap:=s.heap.push {cls:=.type "range",data:=.fields #[.int lo t,.int a u,.int 1 v]},toks:=tk}:=by
 apply wpAny_pyIter_range (IsRange.new ..)<|small_one f g h i;have d:Inv X c σ H {s with heap:=s.heap.push {cls:=.type "range",data:=.fields #[.int lo t,.int a u,.int 1 v]},toks:=tk}:=I.kept λb o e=>e7 _ e
 refine⟨(s.heap.push {cls:=.type "range",data:=.fields #[.int lo t,.int a u,.int 1 v]}).objs.size,[(s.heap.push {cls:=.type "range",data:=.fields #[.int lo t,.int a u,.int 1 v]}).objs.size],_,_,H,ρ,
  d.kept λb o e=>e7 _ e,M3 _ lo (a-lo).toNat,?_,λb j=>?_,q⟩
 ·have k:lo+((0:Nat):Int)*1=lo:=⋯;have l:(((a-lo).toNat:Nat):Int)-((0:Nat):Int)=acR lo a 1:=by grind [rangeSize_one]
  rw[k,l];exact ib _ ρ
 have e:b=(s.heap.push {cls:=.type "range",data:=.fields #[.int lo t,.int a u,.int 1 v]}).objs.size:=by simpa using j
 subst e;exact d.mm (fj _)<|d.ak.fresh<|fj _
def Sk(a:TA):TI:=fun σ H R=>a σ H λvs b=>∃j:Int,vs=[.int j]/\-(2 ^ 62)<=j/\j<2 ^ 62/\R (p6 0 j.toNat) b
def Px(a:TA):TI:=fun σ H R=>a σ H λvs b=>∃i j:Int,vs=[.int i,.int j]/\(-(2 ^ 62)<=i/\i<2 ^ 62/\-(2 ^ 62)<=j/\j<2 ^ 62)/\R (p6 i (j-i).toNat) b
theorem Ke (f:Gl X "range")(g:X.mg "range"=am)(i:PA X [a] d)(k:nk [a] X.env=[(false,eval a X.env)]:=by rfl):PI X tg (.Call (.Name "range" p) [a] [] pos) (Sk d):=by
 refine λb s σ H R I h=>Call_<|pz I f g boot_range<|Xn (aD (i pos b s σ H _ I h) λus s1 e=>?_) k ρ;obtain⟨vs,H1,l,m,c⟩:=e;obtain⟨j,e,c,n,q⟩:=c;subst e;cases m with
 | cons r o =>
  cases o;obtain⟨t,rfl⟩:=r;exact call_range_1<|Bv l ⋯ ⋯ c n (by simpa using q)
theorem OO (l:Gl X "range")(m:X.mg "range"=am)(n:PA X [a,b] k)(o:nk [a,b] X.env=[(false,eval a X.env),(false,eval b X.env)]:=by rfl)(c:nk [b] X.env=[(false,eval b X.env)]:=by rfl) :
  PI X tg (.Call (.Name "range" p) [a,b] [] pos) (Px k):=by
 refine λd s σ H R I h=>Call_<|pz I l m boot_range<|Xn (aD (n pos d s σ H _ I h) λus s1 g=>?_) (by rw[o,c]) (by rw[c];rfl);obtain⟨vs,H1,u,v,f⟩:=g;obtain⟨i,j,e,⟨f,w,x,y⟩,q⟩:=f;subst e;cases v with
 | cons r g =>
  cases g with
  | cons z g =>
   cases g;obtain⟨t,rfl⟩:=r;obtain⟨t',rfl⟩:=z;exact call_range_2<|Bv u f w x y q
def rK(c:TI)(g:TG)(d:TS):TS:=λD σ H=>c σ H λJ e=>∃W:Nat->Nat->St->Hp->Prop,(∃m,W 0 m σ e)/\∀i m σ H,W i m σ H ->
 (J.stop i H/\D.nx σ H)\/(J.go i H/\∃N:St->Hp->Prop,(∀σ' H',N σ' H'->∃a,a<m/\W (i+1) a σ' H')/\∀x H',J.mE i H x H'->g x σ H' λb f=>d {D with nx:=N,ct:=N,bk:=D.nx} b f)
noncomputable def rS(a:List dn)(h:ph):List (dn×Th):=a.filterMap λb=>(h.get? b).map λo=>(b,o)
def tV (c:b∈a)(e:h.get? b=al o):(b,o)∈rS a h:=YC.2 ⟨b,c,by rw[e];rfl⟩
theorem RU (c:p∈rS a h):p.1∈a/\h.get? p.1=al p.2:=by
 obtain⟨b,d,e⟩:=YC.1 c;cases q:h.get? b with
 | none=>rw[q] at e;exact nO e
 | some o=>rw[q] at e;have f:=Option.some.inj e;subst f;exact⟨d,q⟩
def Inv.pinned (I:Inv X a σ H s)(h:∀b∈c,jS X a H b)(i:∀b∈c,∃o,s.heap.get? b=al o/\∀v,o.data≠.cell v):Inv X (a++rS c s.heap) σ H s :=
 I.BD λp j=>(ee.1 j).elim (λz=>I.pin p<|p8 _ z) λz=>by obtain⟨f,e⟩:=RU z;obtain⟨k,l,m,_⟩:=h p.1 f;obtain⟨o,g,d⟩:=i p.1 f;rw[e] at g;obtain rfl:=sO g;exact⟨e,k,l,m,d⟩
def Inv.vj (I:Inv X (a++b) σ H s):Inv X a σ H s:=I.BD λp c=>I.pin p<|p8 _<|Zl _ c
theorem sQ (y:ZN (k5 X.prog X.w) X.A X.env X.xe)(P:X.calm=bi)(hi:PI X tg iter M)(hg:PG X tg g)(j:dF X body O)(hs:∀x,ti iter X.env x=pure x:=by intro _;rfl):PS X (.For tg iter body [] pos) (rK M g O):=by
 refine λc s σ H D I h=>wpAny_For (aD (hi c s σ H _ I h) λv s1 h1=>aD h1 λitv s2 h2=>?_) hs;obtain⟨it,z,Q,J,H2,e,I2,T,R,S,W,⟨m0,w0⟩,turn⟩:=h2;subst e;have t:∀{H':Hp},(∀b∈z,H' b=am)->∀b∈z,jS X c H' b:=λhn b j=>⟨hn b j,(S b j).2⟩;refine codeAny_forLoop_any (λn s'=>∃i σ' H',Inv X c σ' H' s'/\Q i s'.heap/\(∀b∈z,H' b=am)/\W i n σ' H') ?_ m0 ⟨0,σ,H2,I2,R,λb j=>(S b j).1,w0⟩;rintro n U ⟨i,p,E,V,F,G,w3⟩;rcases turn i n p E w3 with⟨stop,qn⟩|⟨go,N,hN,step⟩
 ·refine XM y (aD (T.done X ρ ρ ρ P i c U p E X.xe V (t G) F stop) λr s4 h=>?_);obtain⟨K,I4⟩:=h;subst K;exact Zr ⟨p,E,I4,qn⟩
 refine XM y (aD (T.item X ρ ρ ρ P i c U p E X.xe V (t G) F go) λr s4 h=>?_);obtain⟨u,K,h4⟩:=h;subst K;refine XM y (aD h4 λ_ Y ⟨x,Z,I5,r5,y5,B,be⟩=>?_);refine XM y (aD (hg _ Y p Z x u _ (I5.pinned (t be)<|T.obj _ _ B) r5<|step x Z y5) λ_ s6 h=>?_);obtain⟨UC,H6,I6,q6⟩:=h;refine XM y (aD (j _ s6 UC H6 _ I6 q6) λf L q=>?_);have again:∀{a:St}{k:Hp},Inv X (c++rS z Y.heap) a k L->N a k->∃m,m<n/\∃i σ' H',Inv X c σ' H' L/\Q i L.heap/\(∀b∈z,H' b=am)/\W i m σ' H':=λ{a k} l C=>by obtain⟨m',hm,w7⟩:=hN a k C;refine⟨m',hm,i+1,a,k,l.vj,T.keep _ _ _ B λb j o e=>(l.pin (b,o)<|p8 _<|p8 _<|tV j e).1,λb j=>?_,w7⟩;obtain⟨o,e,d⟩:=T.obj _ _ B b j;exact (l.pin (b,o)<|p8 _<|p8 _<|tV j e).2.1
 cases f with
 | next=>obtain⟨a,k,l,C⟩:=q;exact again l C
 | cont=>obtain⟨a,k,l,C⟩:=q;exact again l C
 | brk=>obtain⟨a,k,l,q⟩:=q;exact⟨a,k,l.vj,q⟩
 | ret v=>obtain⟨x7,a,k,l,r7,q⟩:=q;exact⟨x7,a,k,l.vj,r7,q⟩
end
theorem wk{K:ft}{a:dn}{xs:List V}{g:TG}{h:TS}{D:Ends}{σ:St}{H:Hp}(b:Nat->St->Hp->Prop)(k:b 0 σ H)(hl:∀i σ H,i<=xs.length->b i σ H->bA K H a xs)
 (l:∀i x σ H,xs[i]?=al x->b i σ H->g x σ H fun c f=>h {D with nx:=b<|i+1,ct:=b<|i+1,bk:=D.nx} c f)(hd:∀σ H,b xs.length σ H->D.nx σ H) :
  ∃W:Nat->Nat->St->Hp->Prop,(∃m,W 0 m σ H)/\∀i m σ H,W i m σ H ->
   ((qR K a).stop i H/\D.nx σ H)\/((qR K a).go i H/\∃N:St->Hp->Prop,(∀σ' H',N σ' H'->∃j,j<m/\W (i+1) j σ' H')/\∀x H',(qR K a).mE i H x H'->g x σ H' fun c f=>h {D with nx:=N,ct:=N,bk:=D.nx} c f):=by
 refine⟨fun i m σ H=>m=xs.length-i/\i<=xs.length/\b i σ H,⟨xs.length,by simp,pd _,k⟩,?_⟩;rintro i m σ H ⟨rfl,n,p⟩;have q:=hl i σ H n p;by_cases d:i<xs.length
 ·refine τ ⟨⟨xs,xs[i],q,by simp[d]⟩,b<|i+1,fun σ' H' o=>⟨xs.length-(i+1),by omega,rfl,d,o⟩,fun x H' y=>?_⟩;obtain⟨e,y⟩:=y;subst e;exact l i x σ _ (y xs q) p
 have e:i=xs.length:=by omega
 subst e;exact ι ⟨⟨xs,q,fj _⟩,hd σ H p⟩
abbrev R2:=V->V->Hp->VK->Prop
def aQ(X:Cx)(f:cA->cA->Sem cA)(r:R2):Prop :=
 ∀(a:List (dn×Th)) (s:ey) (σ:St) (H:Hp) (x y:V) (v u:cA) (Q:VK),Inv X a σ H s->RelV x v->RelV y u->r x y H Q ->
  hX (k5 X.prog X.w) X.A (f v u) (EP X a σ Q) X.xe s
def A3(X:Cx)(f:cA->Sem cA)(r:V->Hp->VK->Prop):Prop :=
 ∀(a:List (dn×Th)) (s:ey) (σ:St) (H:Hp) (x:V) (v:cA) (Q:VK),Inv X a σ H s->RelV x v->r x H Q ->
  hX (k5 X.prog X.w) X.A (f v) (EP X a σ Q) X.xe s
def bP(X:Cx)(f:cA)(r:List V->Hp->VK->Prop):Prop :=
 ∀(a:List (dn×Th)) (s:ey) (σ:St) (H:Hp) (xs:List V) (us:List cA) (Q:VK),Inv X a σ H s->aC xs us->r xs H Q ->
  hX (k5 X.prog X.w) X.A (call f us) (EP X a σ Q) X.xe s
def MB(X:Cx)(r:V->Hp->(Bool->Hp->Prop)->Prop):Prop :=
 ∀(a:List (dn×Th)) (s:ey) (σ:St) (H:Hp) (x:V) (v:cA) (Q:Bool->Hp->Prop),Inv X a σ H s->RelV x v->r x H Q ->
  hX (k5 X.prog X.w) X.A (truthy v) (TP X a σ Q) X.xe s
def ow(r:R2)(a b:TE):TE:=fun σ H Q=>a σ H λx c=>b σ c λy d=>r x y d Q
def JY(r:V->Hp->VK->Prop)(a:TE):TE:=fun σ H Q=>a σ H λx b=>r x b Q
def rI(C:Int->Int->Prop)(g:Int->Int->V):R2:=λx y H Q=>∃i j,x=.int i/\y=.int j/\C i j/\Q (g i j) H
def iK(g:Int->Int->V):R2:=λx y H Q=>∃i j,x=.int i/\y=.int j/\Q (g i j) H
def rU(g:Int->V):V->Hp->VK->Prop:=λx H Q=>∃i,x=.int i/\Q (g i) H
section
variable{X:Cx}{a b c:hH}{ta tb tc:TE}{pos:H9}
def AH(l:PE X a ta)(m:PE X b tb){R:V->V->Hp->Prop}(I:Inv X d σ H s)(h:ta σ H λx i=>tb σ i λy e=>R x y e){Q:cA->ey->Prop}{f:cA->cA->Sem cA}(n:∀v u g x y e,Inv X d σ e g->RelV x v->RelV y u->R x y e->hX (k5 X.prog X.w) X.A (f v u) Q X.xe g) :
  hX (k5 X.prog X.w) X.A (eval a X.env) (λv j=>hX (k5 X.prog X.w) X.A (eval b X.env) (λu k=>hX (k5 X.prog X.w) X.A (f v u) Q X.xe k) X.xe j) X.xe s:=by
 refine aD (l d s σ H _ I h) λv o g=>?_;obtain⟨x,i,p,q,r⟩:=g;refine aD (m d o σ i _ p r) λu g h=>?_;obtain⟨y,e,t,z,B⟩:=h;exact n v u g x y e t q z B
def So (e:A3 X (unaryOp op) r)(f:PE X a ta):PE X (.UnaryOp op a pos) (JY r ta):=by exact λd s σ H Q I h=>UnaryOp_ (aD (f d s σ H _ I h) λv g ⟨x,i,j,k,l⟩=>e d g σ i x v Q j k l)
def vA{f:cA->cA->Sem cA}{C:Int->Int->Prop}{g:Int->Int->Int}
 (rule:∀(i j:Int) (t u:Tok) (s:ey) (Q:cA->ey->Prop) (E:cA->ey->Prop),C i j->Q (.int (g i j) s.toks) {s with toks:=s.toks+1}->hX (k5 X.prog X.w) X.A (f (.int i t)<|.int j u) Q E s) :
  aQ X f (rI C λi j=>.int<|g i j):=by
 intro pins s σ H x y v u Q I rx d h;obtain⟨i,j,rfl,rfl,e,q⟩:=h;obtain⟨t,rfl⟩:=rx;obtain⟨t',rfl⟩:=d;exact rule i j t t' s _ _ e ⟨.int<|g i j,H,I.tok _,⟨_,ρ⟩,q⟩
def D6{f:cA->cA->Sem cA}{g:Int->Int->Int}
 (rule:∀(i j:Int) (t u:Tok) (s:ey) (Q:cA->ey->Prop) (E:cA->ey->Prop),Q (.int (g i j) s.toks) {s with toks:=s.toks+1}->hX (k5 X.prog X.w) X.A (f (.int i t)<|.int j u) Q E s) :
  aQ X f (iK λi j=>.int<|g i j):=by
 intro pins s σ H x y v u Q I rx d h;obtain⟨i,j,rfl,rfl,q⟩:=h;obtain⟨t,rfl⟩:=rx;obtain⟨t',rfl⟩:=d;exact rule i j t t' s _ _ ⟨.int<|g i j,H,I.tok _,⟨_,ρ⟩,q⟩
def vN{f:cA->cA->Sem cA}{g:Int->Int->Bool}
 (rule:∀(i j:Int) (t u:Tok) (s:ey) (Q:cA->ey->Prop) (E:cA->ey->Prop),Q (.bool<|g i j) s->hX (k5 X.prog X.w) X.A (f (.int i t)<|.int j u) Q E s) :
  aQ X f (iK λi j=>.bl<|g i j):=by
 intro pins s σ H x y v u Q I rx d h;obtain⟨i,j,rfl,rfl,q⟩:=h;obtain⟨t,rfl⟩:=rx;obtain⟨t',rfl⟩:=d;exact rule i j t t' s _ _ ⟨.bl<|g i j,H,I,ρ,q⟩
def Tn(i j:Int):Prop:=0<=j/\j<=1000000/\i.natAbs<2 ^ 64
def Kq:aQ X (Xw .Mod) (rI (λ_ j=>0<j) λi j=>.int<|i%j):=vA λi j _ _ _ _ _ d q=>by exact mod_int' (by lia) (by rw[Int.fmod_eq_emod_of_nonneg i (by lia)];exact q)
def J9:aQ X (Xw .Pow) (rI Tn λi j=>.int<|i ^ j.toNat):=vA λ_ _ _ _ _ _ _ d q=>pow_int_small d.1 d.2.1 d.2.2 q
def Ry{f:cA->Sem cA}{g:Int->Int}
 (rule:∀(i:Int) (t:Tok) (s:ey) (Q:cA->ey->Prop) (E:cA->ey->Prop),Q (.int (g i) s.toks) {s with toks:=s.toks+1}->hX (k5 X.prog X.w) X.A (f<|.int i t) Q E s) :
  A3 X f (rU λi=>.int<|g i):=by
 intro pins s σ H x v Q I rx h;obtain⟨i,rfl,q⟩:=h;obtain⟨t,rfl⟩:=rx;exact rule i t s _ _ ⟨.int<|g i,H,I.tok _,⟨_,ρ⟩,q⟩
def xP (I:Inv X d σ H s)(q:Q (.bl k) H)(e:k=f):EP X d σ Q (.bool f) s:=by subst e;exact⟨.bl k,H,I,ρ,q⟩
def EG:aQ X (mu .Lt) (iK λi j=>.bl<|bd<|i<j):=vN λ_ _ _ _ _ _ _ q=>lt_int q
def Gh:aQ X (mu .Gt) (iK λi j=>.bl<|bd<|j<i):=vN λ_ _ _ _ _ _ _ q=>gt_int q
def Gb:aQ X (mu .Lt) (λx y H Q=>∃i j,x=.str i/\y=.str j/\Q (.bl<|bd<|i.cps.toList<j.cps.toList) H):=by intro pins s σ H x y v u Q I rx d h;obtain⟨i,j,rfl,rfl,q⟩:=h;obtain⟨t,rfl⟩:=rx;obtain⟨t',rfl⟩:=d;exact lt_str<|xP I q ρ
def Ld:aQ X (mu .In) (λx y H Q=>∃i j,x=.str i/\y=.str j/\Q (.bl<|!(HT j i 0 j.length 1).isEmpty) H):=by intro pins s σ H x y v u Q I rx d h;obtain⟨i,j,rfl,rfl,q⟩:=h;obtain⟨t,rfl⟩:=rx;obtain⟨t',rfl⟩:=d;exact in_str<|xP I q ρ
def aQ.or (h:aQ X f r)(h':aQ X f e):aQ X f (λx y H Q=>r x y H Q\/e x y H Q):=by
 intro d s σ H x y v u Q I rx g q;rcases q with q|q
 ·exact h d s σ H x y v u Q I rx g q
 exact h' d s σ H x y v u Q I rx g q
def j2(b)(h:op≠.In:=by decide)(h2:op≠.NotIn:=by decide):za op b=bn:=by
 have d:(op==CmpOp.In)=bn:=by simp_all
 have e:(op==CmpOp.NotIn)=bn:=by simp_all
 cases b<;>simp[za,d,e]
def CO (e:aQ X (mu op) r)(f:PE X a ta)(g:PE X b tb)(i:za op b=bn):PE X (.Compare a [op] [b] pos) (ow r ta tb):=by exact λd s σ H Q I h=>wpAny_Compare1 (AH f g I h λv u j x y k l rx m q=>e d j σ k x y v u Q l rx m q) i
def yY(t:TE):TT:=fun σ H Q=>t σ H λx H'=>∃k,x=.bl k/\Q k H'
def AK (f:aQ X (mu op) r)(g:PE X a ta)(i:PE X b tb)(j:za op b=bn):PT X (.Compare a [op] [b] pos) (yY<|ow r ta tb):=by
 intro d s σ H Q I h;refine wpAny_isTrue_Compare1 (aD (g d s σ H _ I h) λv l ⟨x,m,n,o,p⟩=>aD (i d l σ m _ n p) λu q ⟨y,t,w,A,B⟩ =>
  aD (f d q σ t x y v u _ w o A B) λc s3 ⟨z,C,D,E,k,e,F⟩=>?_) j
 subst e;subst E;exact Xe ⟨C,D,F⟩
def x9(r e:R2)(ta tb tc:TE):TE:=fun σ H Q=>ta σ H λx f=>tb σ f λy g=>r x y g λz d=>∃k,z=.bl k /\
 (if k=bi then tc σ d λh i=>e y h i Q else Q (.bl false) d)
theorem Nu (p:aQ X (mu op) r)(j:aQ X (mu g) i)(q:PE X a ta)(t:PE X b tb)(w:PE X c tc)(A:ZL [op,g] [b,c]=bn:=by with_unfolding_all rfl):PE X (.Compare a [op,g] [b,c] pos) (x9 r i ta tb tc):=by
 intro f s σ H Q I h;refine Compare_chain (aD (q f s σ H _ I h) λv B ⟨x,C,D,E,F⟩=>chain_link (aD (t f B σ C _ D F) λu G ⟨y,J,K,l,L⟩ =>
  aD (p f G σ J x y v u _ K E l L) λd M ⟨z,m,n,N,k,e,o⟩=>?_)) A
 subst e;subst N;apply Xe;cases k with
 | false=>exact ite_ff ⟨.bl false,m,n,ρ,o⟩
 | true=>exact ite_tt<|chain_last (aD (w f M σ m _ n o) λO P ⟨R,S,T,U,V⟩=>j f P σ S y R u O Q T l U V)
theorem Jz (p:aQ X (mu op) r)(j:aQ X (mu g) i)(q:PE X a ta)(t:PE X b tb)(w:PE X c tc)(A:ZL [op,g] [b,c]=bn:=by with_unfolding_all rfl):PT X (.Compare a [op,g] [b,c] pos) (yY<|x9 r i ta tb tc):=by
 intro f s σ H Q I h;refine isTrue_chain (aD (q f s σ H _ I h) λv B ⟨x,C,D,E,F⟩=>test_link (aD (t f B σ C _ D F) λu G ⟨y,J,K,l,L⟩ =>
  aD (p f G σ J x y v u _ K E l L) λd M ⟨z,m,n,N,k,e,o⟩=>?_)) A
 subst e;subst N;apply Xe;cases k with
 | false=>obtain⟨k',O,P⟩:=o;cases O;exact ite_ff ⟨m,n,P⟩
 | true=>refine ite_tt<|test_last (aD (w f M σ m _ n o) λR S ⟨T,U,V,W,Y⟩=>aD (j f S σ U y T u R _ V l W Y) λd' s5 ⟨z2,Z,I5,r5,k2,e2,q5⟩=>?_);subst e2;subst r5;exact Xe ⟨Z,I5,q5⟩
def qP(K:ft)(x:V)(H:Hp)(k:Bool):Prop :=
 match x with
 | .aU=>k=bn
 | .bl b=>k=b
 | .int i=>k=(i != 0)
 | .str y=>y.length<=dk/\k=((y.length:Int) != 0)
 | .tJ y=>y.size<=dk/\k=((y.size:Int) != 0)
 | .ref p=>(∃xs,bA K H p xs/\k=!xs.isEmpty)\/(∃xs,aS K H p xs/\k=!xs.isEmpty)\/∃kvs,H p=al (.dK kvs)/\k=!kvs.isEmpty
 | _=>False
def HR (r:KV kvs vs):(!vs.isEmpty)=!kvs.isEmpty:=by
 cases r<;>rfl
def CZ (r:aC xs its):(!its.toArray.isEmpty)=!xs.isEmpty:=by
 cases r<;>simp
def kZ:(dk:Nat)<2 ^ 63:=by rw[zd];decide
theorem zr:MB X (λx H Q=>∃k,qP X.K x H k/\Q k H):=by
 intro pins s σ H x v Q I rx h;obtain⟨k,e,q⟩:=h;have hs:=zd;cases x with
 | aU=>subst rx;have d:=e;subst d;exact truthy_none ⟨H,I,q⟩
 | bl b=>subst rx;have d:=e;subst d;exact Xe ⟨H,I,q⟩
 | int i=>obtain⟨t,rfl⟩:=rx;have d:=e;subst d;exact PySem.P.truthy_int ⟨H,I,q⟩
 | str y=>obtain⟨t,rfl⟩:=rx;obtain⟨l,d⟩:y.length<=dk/\k=((y.length:Int) != 0):=e;subst d;exact PySem.P.truthy_str (by omega) ⟨H,I.tok _,q⟩
 | tJ y=>obtain⟨t,rfl⟩:=rx;obtain⟨l,d⟩:y.size<=dk/\k=((y.size:Int) != 0):=e;subst d;exact W.truthy_bytes (by lia) ⟨H,I.tok _,q⟩
 | ref p =>
  subst rx;have d:=e;rcases d with⟨xs,hx,d⟩|⟨xs,hx,d⟩|⟨kvs,hx,d⟩
  ·subst d;obtain⟨its,r,g,j⟩:=I.list hx;have f:=r.length;exact wpAny_truthy_list g.isList (by simp only[gs];omega) ⟨H,I.tok _,by rw[CZ r];exact q⟩
  ·subst d;obtain⟨its,r,g,j⟩:=I.tuple hx;have f:=r.length;exact truthy_tuple g (by simp only[gs];omega) ⟨H,I.tok _,by rw[CZ r];exact q⟩
  subst d;obtain⟨j,n,vs,r,m⟩:kvs.length<=dk/\(p==Xm)=bn/\∃vs,KV kvs vs/\s.heap.DictOf (cF X.prog X.w) p vs:=I.ak p _ hx;have f:=Paired.length r;exact wpAny_truthy_dict n m (by omega) ⟨H,I.tok _,by rw[HR r];exact q⟩
 | _=>exact (e).elim
def NW(f:PE X a ta)(g:∀d,abB a X.env d=(do let v <-d;aaT a.pos;XY [v] (truthy v))) :
  PT X a (fun σ H Q=>ta σ H λx H'=>∃k,qP X.K x H' k/\Q k H'):=by
 exact λe s σ H Q I h=>isTrue_plain (aD (f e s σ H _ I h) λv i ⟨x,j,l,m,n⟩=>zr e i σ j x v Q l m n)<|g _
def P7:aQ X (Xw .Add) (λx y H Q=>∃i j,x=.str i/\y=.str j/\i.length+j.length<=dk/\Q (.str<|i++j) H):=by intro pins s σ H x y v u Q I rx d h;obtain⟨i,j,rfl,rfl,e,q⟩:=h;obtain⟨t,rfl⟩:=rx;obtain⟨t',rfl⟩:=d;exact add_str (λt' tk=>⟨.str<|i++j,H,I.tok _,⟨_,ρ⟩,q⟩) e
theorem vals1 (r:aC [x] us):∃u,us=[u]/\RelV x u:=by
 cases r with
 | cons d e=>cases e;exact⟨_,ρ,d⟩
theorem vals2 (r:aC [x,y] us):∃u d,us=[u,d]/\RelV x u/\RelV y d:=by
 cases r with
 | cons e f =>
  cases f with
  | cons g h=>cases h;exact⟨_,_,ρ,e,g⟩
def Ib(e:X.calm=bi):bP X (.builtin "max") (λxs H Q=>∃i j,xs=[.int i,.int j]/\Q (.int (if j>i then j else i)) H):=by
 intro pins s σ H xs us Q I r h;obtain⟨i,j,rfl,q⟩:=h;obtain⟨u,w',rfl,⟨t,rfl⟩,⟨t',rfl⟩⟩:=vals2 r;refine max_two_ints (I.ok.hd e) λh' tk k=>⟨_,H,I.kept k,?_,q⟩;by_cases d:j>i
 ·rw[if_pos d,if_pos d];exact⟨_,ρ⟩
 rw[if_neg d,if_neg d];exact⟨_,ρ⟩
def Io(e:X.calm=bi):bP X (.builtin "min") (λxs H Q=>∃i j,xs=[.int i,.int j]/\Q (.int (if j<i then j else i)) H):=by
 intro pins s σ H xs us Q I r h;obtain⟨i,j,rfl,q⟩:=h;obtain⟨u,w',rfl,⟨t,rfl⟩,⟨t',rfl⟩⟩:=vals2 r;refine min_two_ints (I.ok.hd e) λh' tk k=>⟨_,H,I.kept k,?_,q⟩;by_cases d:j<i
 ·rw[if_pos d,if_pos d];exact⟨_,ρ⟩
 rw[if_neg d,if_neg d];exact⟨_,ρ⟩
def Rf:bP X (.type "int") (λxs H Q=>(∃i,xs=[.int i]/\Q (.int i) H)\/∃k,xs=[.bl k]/\Q (.int (if k then 1 else 0)) H):=by
 intro pins s σ H xs us Q I r h;rcases h with⟨i,rfl,q⟩|⟨k,rfl,q⟩
 ·obtain⟨u,rfl,t,rfl⟩:=vals1 r;exact call_int_int ⟨.int i,H,I,⟨_,ρ⟩,q⟩
 obtain⟨u,rfl,d⟩:=vals1 r;subst d;exact call_int_bool ⟨.int (if k then 1 else 0),H,I.tok _,⟨_,ρ⟩,q⟩
end
theorem j5.some_of (r:j5 (al v) o):∃u,o=al u/\RelV v u:=by
 cases o with
 | none=>exact (r).elim
 | some u=>exact⟨u,ρ,r⟩
structure bY (k:Nat) (A:qp):Prop where
 hd:A.handled=am
 dp:A.depth+3*k+5<recursionLimit
 un:A.units+16*k+200<zR
def bY.mono (r:bY k A)(h:j<=k):bY j A:=⟨r.hd,by have:=r.dp;omega,by have:=r.un;omega⟩
def bY.deeper (r:bY (k+1) A)(env:ZO):bY k (A.deeper env) :=
 ⟨r.hd,by have:=r.dp;show A.depth+1+3*k+5<_;omega,by have:=r.un;show A.units+3+16*k+200<_;omega⟩
def bY.depth (r:bY k A):A.depth<recursionLimit:=by have:=r.dp;omega
def j6:TA:=λ_ H Q=>Q [] H
def j9(a:TE)(tr:TA):TA:=fun σ H Q=>a σ H λx b=>tr σ b λxs c=>Q (x::xs) c
section
variable{X:Cx}{e:hH}{es:List hH}{te:TE}{t:TA}{pos:H9}
def il:PA X [] j6:=λ_ _ _ _ H Q I h=>Calls.spliced_nil ⟨[],H,I,.nil,h⟩
def gw(b:PE X e te)(c:PA X es t)(d:bN X e es:=by rfl):PA X (e::es) (j9 te t):=by intro pos a s σ H Q I h;rw[d];refine Calls.spliced_cons (aD (b a s σ H _ I h) λu f e=>?_);obtain⟨x,g,i,j,k⟩:=e;exact aD (c pos a f σ g _ i k) λus s2 ⟨xs,l,m,n,o⟩=>⟨x::xs,l,m,.cons j n,o⟩
def CV(t:TA):TE:=fun σ H Q=>t σ H λxs a=>xs.length<=dk/\∀p,a p=am->Q (.ref p) (upd a p<|.U xs)
def GD(t:TA):TE:=fun σ H Q=>t σ H λxs a=>xs.length<=dk/\∀p,a p=am->Q (.ref p) (upd a p<|.L xs)
def xZ{g}(h:PA X es t):PE X (.Tuple es g pos) (CV t):=by refine λc s σ H Q I i=>wpAny_Tuple_spliced (aD (h pos c s σ H _ I i) λus a ⟨xs,d,f,r,z,q⟩=>⟨by rw[<-r.length];exact z,?_⟩);refine⟨.ref a.heap.objs.size,upd d a.heap.objs.size<|.U xs,f.laid (λb u e=>e7 _ e) (fj _) ?_,ρ,q _<|f.ak.fresh<|fj _⟩;exact⟨z,us,r,⟨_,ib _ ρ,ρ,_,ρ⟩⟩
def BN(h:PA X es t):PE X (.List es pos) (GD t):=by refine λc s σ H Q I g=>wpAny_List_spliced (aD (h pos c s σ H _ I g) λus a ⟨xs,d,f,r,z,q⟩=>⟨by rw[<-r.length];exact z,?_⟩);refine⟨.ref a.heap.objs.size,upd d a.heap.objs.size<|.L xs,f.laid (λb u e=>e7 _ e) (fj _) ?_,ρ,q _<|f.ak.fresh<|fj _⟩;exact⟨z,us,0,r,ib _ ρ⟩
end
abbrev Sp:=List V->Hp->VK->XK->Prop
abbrev jP:=List ZO->Hp->ey->XK->cA->ey->Prop
structure uF (P:kH) (w:pe) (K:ft) (mg:e6->Option cA) (base:ph) (A:qp) (outer:List ZO) (s:ey) (H:Hp):Prop where
 frames:A.frames=al outer
 mod:Mod K mg base
 bs:∀b o,base.get? b=al o->s.heap.get? b=al o/\H b=am
 mf:base.objs.size<=s.heap.objs.size
 jO:s.heap.FunFrames base outer
 pZ:∀b∈jy outer,H b=am
 ak:bZ P w H s.heap
 bare:ZP s.gens
def CE(outer:List ZO)(P:kH)(w:pe)(H:Hp)(s:ey)(Q:VK)(u:cA)(s':ey):Prop :=
 ∃v H',s'.os=s.os/\ZP s'.gens/\Un (jy outer) [] H H' s.heap s'.heap/\bZ P w H' s'.heap/\RelV v u/\Q v H'
def CR(CX:jP)(outer:List ZO)(P:kH)(w:pe)(H:Hp)(s:ey)(Q:VK)(E:XK)(r:abF)(s':ey):Prop :=
 match r with
 | .ok (.ret u)=>CE outer P w H s Q u s'
 | .ok _=>False
 | .error e=>CX outer H s E e s'
structure br (P:kH) (w:pe) (K:ft) (mg:e6->Option cA) (base:ph) (CX:jP) (k:Nat) (f:dn) (fd:kq) (ps:List e6) (sp:Sp):Prop where
 len:∀vs H Q E,sp vs H Q E->vs.length=ps.length
 run:∀(A:qp) (outer:List ZO) (s:ey) (H:Hp) (args:Args) (us:List cA) (vs:List V) (Q:VK) (E:XK),bY k A->uF P w K mg base A outer s H->abJ s fd args (ps.zip us)->aC vs us->sp vs H Q E ->
  Zp (k5 P w) A (.call (.ref f) args) (CR CX outer P w H s Q E) s
def br.imp{P:kH}{w:pe}{K:ft}{mg:e6->Option cA}{base:ph}{CX:jP}{k:Nat}{f:dn}{b:kq}{c:List e6}{sp a:Sp}(F:br P w K mg base CX k f b c sp)
 (h:∀vs H Q E,a vs H Q E->sp vs H Q E):br P w K mg base CX k f b c a :=
 ⟨λvs H Q E q=>F.len vs H Q E<|h _ _ _ _ q,λA outer s H args us vs Q E d e g i j=>F.run A outer s H args us vs Q E d e g i<|h _ _ _ _ j⟩
section
variable{X:Cx}{pins:List (dn×Th)}{σ:St}{H:Hp}{s s':ey}
def Inv.MP(I:Inv X pins σ H s):uF X.prog X.w X.K X.mg X.base X.A X.stack s H :=
 ⟨I.ok.frames,I.ok.mod,I.bs,ia I.ok.mf I.sz,I.stack,I.HC,I.ak,I.bare⟩
def Inv.after (I:Inv X pins σ H s)(h:CE X.stack X.prog X.w H s Q u s'):EP X pins σ Q u s':=by obtain⟨v,H',os,bare,un,ak,r,q⟩:=h;obtain⟨hh,g,d,t,a⟩:=s';obtain rfl:a=s.os:=os;exact⟨v,H',I.call un ak bare (λb z=>absurd z ⋯),r,q⟩
end
def zj(sp:Sp)(a:List V)(E:XK)(t:TA):TE:=fun σ H Q=>t σ H λvs b=>sp (vs++a) b Q E
def Binds(K:ft)(b:kq)(a:List e6)(ds:List cA):Prop :=
 ∀(s:ey) (us:List cA),K.In s.heap->(us++ds).length=a.length->abJ s b ⟨us,[]⟩ (a.zip<|us++ds)
def Binds.all{K:ft}{b:kq}{a:List e6}(h:∀us:List cA,us.length=a.length->ab1 b ⟨us,[]⟩=pure (a.zip us)):Binds K b a []:=λs us _ hl=>by rw[sb] at hl ⊢;exact .of_eq<|h us hl
def ve(CX:jP)(X:Cx)(E:XK):Prop:=∀(a:List (dn×Th)) (σ:St) (H:Hp) (s:ey) (e:cA) (s':ey),Inv X a σ H s->CX X.stack H s E e s'->X.xe e s'
section
variable{X:Cx}{CX:jP}{k:Nat}{f C:dn}{fd:kq}{ps:List e6}{sp:Sp}{dvs:List V}{ds:List cA}{E:XK}{x m:e6}{p pos apos:H9}{e o:hH}{es:List hH}{ta:TE}{t:TA}
theorem Ra (F:br X.prog X.w X.K X.mg X.base CX k f fd ps sp)(d:bY k X.A)(g:Binds X.K fd ps ds)(hd:aC dvs ds)(hx:ve CX X E)(I:Inv X a σ H s)(r:aC vs us)(h:sp (vs++dvs) H Q E):hX (k5 X.prog X.w) X.A (call (.ref f) us) (EP X a σ Q) X.xe s:=by
 have c:=r.append hd;have hl:(us++ds).length=ps.length:=by rw[<-c.length];exact F.len _ _ _ _ h
 refine wpAny_call (Zo (F.run X.A X.stack s H ⟨us,[]⟩ (us++ds) (vs++dvs) Q E d I.MP (g s us I.ik hl) c h) λr s' b=>?_);cases r with
 | error e=>exact hx a σ H s e s' I b
 | ok fl =>
  cases fl with
  | ret u=>exact I.after b
  | next=>exact Xt b
  | brk=>exact Xt b
  | cont=>exact Xt b
def Ah(F:br X.prog X.w X.K X.mg X.base CX k f fd ps sp)(g:bY k X.A)(i:Gl X x)(j:X.mg x=al (.ref f))(l:aad X.K (.ref f)=bi)(n:Binds X.K fd ps ds)(hd:aC dvs ds)(hx:ve CX X E)
 (u:PA X (e::es) t)(b:bD x:=by decide)(v:bN X e es:=by rfl)(c:(XG pos<|nk es X.env).any (·.1)=bn:=by rfl) :
  PE X (.Call (.Name x p) (e::es) [] pos) (zj sp dvs E t):=by
 refine λa s σ H Q I h=>aab<|En I i j ?_ b;refine W.callWith_K I.ok.mod.A7 l (aD (u pos a s σ H _ I h) λus s1 ⟨vs,H1,d,r,q⟩=>⟨d.ik,?_⟩) v c;exact Ra F g n hd hx d r q
end
structure bK (N P:List e6) (sc:Xp):Prop where
 kind:sc.kind=.function
 co:sc.isCoroutine=bn
 gen:sc.isGenerator=bn
 nd:N.Nodup
 pre:N.take P.length=P
 par:∀x∈P,sc.names.lookup x=some .local\/sc.names.lookup x=some .cell
 Uh:∀y∈sc.names,y.2≠.free
theorem Ho{YI:e6->Option ZK}:∀{binds:List (e6×cA)}{m:e6->Option cA},(∀v,(x,v)∉binds)->abn YI binds m x=m x
 | [],_,_=>rfl
 | (n,v)::r,m,h=>by
  dsimp only[abn];rw[Ho λw hw=>h w<|eR _ hw];split
  ·have:x≠n:=by rintro rfl;exact h v fk
   simp[this]
  rfl
theorem BR{YI:e6->Option ZK}:∀{binds:List (e6×cA)}{m:e6->Option cA},(∀v,(x,v)∉binds)->abo YI binds m x=m x
 | [],_,_=>rfl
 | (n,v)::r,m,h=>by
  dsimp only[abo];rw[BR λw hw=>h w<|eR _ hw];split
  ·rfl
  have:x≠n:=by rintro rfl;exact h v fk
  simp[this]
theorem FC{YI:e6->Option ZK}:∀{P:List e6}{vs:List cA}{i:Nat}{m:e6->Option cA},P.Nodup->P[i]?=al x->vs[i]?=al v->YI x=some .local ->
  abn YI (P.zip vs) m x=al v
 | [],_,_,_,_,h,_,_=>by simp at h
 | _::_,[],_,_,_,_,h,_=>by simp at h
 | p::P,w::vs,0,m,nd,a,b,c=>by simp at a b;subst a;subst b;show abn YI ((p,w)::P.zip vs) m p=_;dsimp only[abn];rw[Ho λv d=>(lq.1 nd).1 (aai d).1,if_pos c];simp
 | p::P,w::vs,i+1,m,nd,a,b,c=>by unfold abn;exact FC (lq.1 nd).2 (a) (b) c
theorem CG{YI:e6->Option ZK}:∀{P:List e6}{vs:List cA}{i:Nat}{m:e6->Option cA},P.Nodup->P[i]?=al x->vs[i]?=al v->YI x≠some .local ->
  abo YI (P.zip vs) m x=al v
 | [],_,_,_,_,h,_,_=>by simp at h
 | _::_,[],_,_,_,_,h,_=>by simp at h
 | p::P,w::vs,0,m,nd,a,b,c=>by simp at a b;subst a;subst b;show abo YI ((p,w)::P.zip vs) m p=_;dsimp only[abo];rw[BR λv d=>(lq.1 nd).1 (aai d).1,if_neg c];simp
 | p::P,w::vs,i+1,m,nd,a,b,c=>by unfold abo;exact CG (lq.1 nd).2 (a) (b) c
noncomputable def start(N:List e6)(vs:List V):St:=vs.map al++C' (N.length-vs.length) am
noncomputable def iE(CX:jP)(P:kH)(w:pe)(K:ft)(mg:e6->Option cA)(base:ph)(N:List e6)(a:e6)(scope:Xp)(f:dn)(b:cA)(A:qp)(outer:List ZO)(s:ey)(H:Hp)(E:XK):Cx where
 prog:=P
 w:=w
 K:=K
 mg:=mg
 base:=base
 A:=A.deeper<|Xc a scope s.heap.objs.size f b
 N:=N
 eG:=s
 ki:=H
 env:=Xc a scope s.heap.objs.size f b
 outer:=outer
 stack:=Xc a scope s.heap.objs.size f b::outer
 ex:=[]
 calm:=true
 fn:=λ_=>true
 pn:=[]
 xe:=λe s'=>hX (k5 P w) (A.deeper<|Xc a scope s.heap.objs.size f b) (leaving (Xc a scope s.heap.objs.size f b) e) (λ_ c=>CX outer H s E e c) (λd c=>CX outer H s E d c) s'
def Ds{a:Xp}{n:Nat}{x:e6}(h:a.names.lookup x=some .cell):∃c,(acJ n a.names []).lookup x=al c:=by exact YK.1<|acj a.names n []<|ι h
theorem Rl{CX:jP}{P:kH}{w:pe}{K:ft}{mg:e6->Option cA}{base:ph}{N g:List e6}{d:e6}{scope:Xp}{f:dn}{o:cA}{A:qp}{outer:List ZO}{s D:ey}{H:Hp}{E:XK}{us:List cA}{vs:List V}
 (S:bK N g scope)(hd:A.handled=am)(a:uF P w K mg base A outer s H)(hl:vs.length=g.length)(r:aC vs us)
 (x:InCallC s s.heap.objs.size (abn (Xc d scope s.heap.objs.size f o).kindOf (g.zip us) fun _=>am) (acJ (s.heap.objs.size+1) scope.names []) (abo (Xc d scope s.heap.objs.size f o).kindOf (g.zip us) fun _=>am) D) :
  Inv (iE CX P w K mg base N d scope f o A outer s H E) [] (start N vs) H D:=by
 have hpl:g.length<=N.length:=by have:=congrArg List.length S.pre;grind
 obtain⟨t,tk,rfl,F⟩:=x.done;have l:∀b:dn,b∉(iE CX P w K mg base N d scope f o A outer s H E).ex:=fun b z=>absurd (show b∈([]:List dn) from z) ⋯
 refine⟨⟨a.mod,S.kind,ρ,ρ,fj _,fun y z c t C=>?_,fun y j=>?_,fun y c _ h=>?_,fun _=>hd,Around.frames_deeper a.frames,τ ⟨ρ,ρ⟩,fun b z=>absurd z<|l b,a.bs,a.mf,fun b _ _=>l b,fun b z=>absurd z<|l b,a.jO,a.pZ⟩,
  ρ,a.bare,Un.kept F,⟨_,x.toInCall.ns,fun i y v t C h3=>?_⟩,fun y c h=>⟨_,x.cell y c h⟩,a.ak.fresh<|fj _,fun y c h=>?_,fun p m=>absurd (show p∈([]:List (dn×Th)) from m) ⋯,a.ak.kept F,?_⟩
 ·exact name_of_addr x.apart (XT t)<|XT C
 ·have j:=j;rcases j with j|j
  ·exact Ds j
  exact absurd ρ<|S.Uh _<|XT j
 ·exact ZY<|x.above y c<|XT h
 ·have G:i<vs.length:=by
   unfold start at C;by_cases G:i<vs.length
   ·exact G
   simp_all [hE,YY]
  have J:vs[i]?=al v:=by simp_all [start,hG]
  obtain⟨u,I,L⟩:=r.get J;have m:g[i]?=al y:=by rwa[<-S.pre,aaM (by omega)]
  have B:g.Nodup:=by rw[<-S.pre];exact S.nd.sublist<|ZR _ _
  refine⟨u,L,?_⟩;rcases S.par y (eH m) with k|k
  ·exact ι ⟨k,FC B m I k⟩
  obtain⟨c,e⟩:=Ds k;refine τ ⟨ι k,c,e,?_⟩;have q:=x.cell y c e;rw[CG B m I (by show scope.names.lookup y≠_;rw[k];decide)] at q;exact q
 ·exact a.ak.fresh<|ZY<|x.above y c<|XT h
 unfold start;show _=N.length;simp_all
theorem Ly{CX:jP}{P:kH}{w:pe}{K:ft}{mg:e6->Option cA}{base:ph}{k:Nat}{f:dn}{name a:e6}{c:Arguments}{body:List Xs}{scope:Xp}{C kV l pm cdv ct R:cA}{D T:Option dn}
 {F:Array (Option cA)}{N h:List e6}{sp:Sp}(lk:K.lookup f=al ⟨R,T,.func<|aas name a c body scope C kV l pm D cdv ct,F⟩)(G:acN K cdv a=bi)(S:bK N h scope)
 (len:∀vs H Q E,sp vs H Q E->vs.length=h.length)
 (i:∀(A:qp) (outer:List ZO) (s:ey) (H:Hp) (vs:List V) (Q:VK) (E:XK),bY k (A.deeper<|Xc a scope s.heap.objs.size f cdv)->sp vs H Q E ->
   ∃t,dF (iE CX P w K mg base N a scope f cdv A outer s H E) body t/\t {nx:=λ_ H'=>Q .aU H',rt:=Q} (start N vs) H) :
  br P w K mg base CX (k+1) f (aas name a c body scope C kV l pm D cdv ct) h sp:=by
 refine⟨len,λA outer s H args us vs Q E z g U r m=>?_⟩;have hl:=len _ _ _ _ m;have L:=g.mod.A7.keeps λb o e=>(g.bs b o e).1;have M:=g.mod.nolimit.keeps λb o e=>(g.bs b o e).1;have j:∀y∈h.zip us,scope.names.lookup y.1=some .local\/(scope.names.lookup y.1=some .cell/\((acJ (s.heap.objs.size+1) scope.names []).lookup y.1).isSome=bi):=λ⟨n,v⟩ X=>by
  rcases S.par n (aai X).1 with q|q
  ·exact ι q
  exact τ ⟨q,acj _ _ _<|ι q⟩
 refine codeAny_call_function z.depth (L _ _ lk) ρ S.co S.gen ρ (W.codeRec_of L G)<|U _ _ _ _ ?_;refine wpAny_newFunctionEnv_cells S.kind j λenv Y O x=>?_;subst Y;refine⟨M.keeps x.toInCall.keep,codeAny_func ?_⟩;obtain⟨t,Z,hq⟩:=i A outer s H vs Q E (z.deeper _) m;have I:Inv (iE CX P w K mg base N a scope f cdv A outer s H E) [] (start N vs) H O:=Rl S z.hd g hl r x;refine W7 (Z [] O (start N vs) H _ I hq) (λfl s' d=>?_) λe s' d=>d;have p:∀{σ':St}{H':Hp}{v:V}{u:cA},Inv (iE CX P w K mg base N a scope f cdv A outer s H E) [] σ' H' s'->RelV v u->Q v H'->CE outer P w H s Q u s' :=
  λ{σ' H' v u} J B q=>⟨v,H',J.os,J.bare,J.base,J.ak,B,q⟩
 cases fl with
 | ret u=>obtain⟨v,σ',H',J,B,q⟩:=d;exact p J B q
 | next=>obtain⟨σ',H',J,q⟩:=d;exact p (v:=V.aU) J ρ q
 | brk=>obtain⟨_,_,_,q⟩:=d;exact Xt q
 | cont=>obtain⟨_,_,_,q⟩:=d;exact Xt q
section
variable{X:Cx}{x:e6}{p pos:H9}{e:hH}{es:List hH}{t:TA}{id T:String}{r:List V->Hp->VK->Prop}
def vg(r:List V->Hp->VK->Prop)(t:TA):TE:=fun σ H Q=>t σ H λvs a=>r vs a Q
def wd(d:bP X (.builtin id) r)(f:Gl X x)(g:X.mg x=am)(i:Xf x=al (.builtin id))(j:PA X (e::es) t)(k:x≠"__name__":=by decide)(b:bD x:=by decide)
 (l:bN X e es:=by rfl)(c:(XG pos<|nk es X.env).any (·.1)=bn:=by rfl):PE X (.Call (.Name x p) (e::es) [] pos) (vg r t):=by
 refine λa s σ H Q I h=>aab<|pz I f g i ?_ k b;exact ac4 (aD (j pos a s σ H _ I h) λus m ⟨vs,n,o,q,u⟩=>d a m σ n vs us Q o q u) l c
def uT(d:bP X (.type T) r)(f:Gl X x)(g:X.mg x=am)(i:Xf x=al (.type T))(j:PA X (e::es) t)(k:x≠"__name__":=by decide)(b:bD x:=by decide)
 (l:bN X e es:=by rfl)(c:(XG pos<|nk es X.env).any (·.1)=bn:=by rfl):PE X (.Call (.Name x p) (e::es) [] pos) (vg r t):=by
 refine λa s σ H Q I h=>aab<|pz I f g i ?_ k b;exact Xn (aD (j pos a s σ H _ I h) λus m ⟨vs,n,o,q,u⟩=>d a m σ n vs us Q o q u) l c
end
section
open PySem.SeqAt
open PySem.AutoSeq1 (wpAny_loadPart')
open PySem.MeetsSeq PySem.MeetsSeq2 PySem.MeetsSeq3
end
section
variable{prog:kH}{w:pe}{A:qp}{E:cA->ey->Prop}{s:ey}{X:Cx}{e:hH}{te:TE}{lo hi:Option hH}{tl th:TO}{pos p2:H9}
def RB (o:Yk s.heap t vs.toArray)(p:Yk s.heap b a.toArray)(j:vs≠[])(q:a=[]->Q (.ref t) s)(r:a≠[]->Q (.ref s.heap.objs.size) {s with heap:=s.heap.push {cls:=.type "tuple",data:=.seq (vs++a).toArray} })(hsz:vs.length+a.length<=dk):hX (k5 prog w) A (Xw .Add (.ref t)<|.ref b) Q E s:=by
 obtain⟨⟨cls,dd,data,k⟩,d,l,n,hd⟩:=id o;obtain⟨⟨cls2,f,data2,g⟩,c,h,m,i⟩:=id p;simp only at l hd h i;subst l hd h i;have e:vs.toArray++a.toArray=(vs++a).toArray:=⋯;by_cases hw:a=[]
 ·exact abC ⟨_,d,ρ⟩ ⟨_,c,ρ⟩ acI adn aaI aaB (aaw _ _)
   (tuple_addW1 t b vs.toArray a.toArray n m dd f k g (by simpa using j) (by simp[hw])) ⟨d,c,q hw⟩
 refine abC ⟨_,d,ρ⟩ ⟨_,c,ρ⟩ acI adn aaI aaB (aaw _ _)
  (tuple_addW2 t b vs.toArray a.toArray n m dd f k g (by simpa using j) (by simpa using hw) (by omega)) ⟨d,c,?_⟩
 rw[e];exact r hw
noncomputable def bh(n d:Nat):Option Int->Nat
 | none=>d
 | some v=>if v<0 then (v+(n:Int)).toNat else min v.toNat n
def Du(n d):bh n d am=d:=ρ
def Ht(n d k:Nat):bh n d (al (k:Int))=min k n:=by rfl
theorem Mu(n d)(hd:d<=n)(o):bh n d o<=n:=by
 cases o with
 | none=>exact hd
 | some v=>show (if v<0 then (v+(n:Int)).toNat else min v.toNat n)<=n;by_cases a:v<0;lia;rw[if_neg a];exact Nat.min_le_right _ _
def Ek(v:Int)(n d:Nat):(if v<0 then max (v+(n:Int)) 0 else min v (n:Int))=((bh n d (al v):Nat):Int):=by show (if v<0 then max (v+(n:Int)) 0 else min v (n:Int))=(((if v<0 then (v+(n:Int)).toNat else min v.toNat n):Nat):Int);grind
theorem Km(lo hi:Option Int)(n:Nat):Yj lo hi 1 (n:Int)=(((bh n 0 lo:Nat):Int),((bh n n hi:Nat):Int)):=by
 apply acb
 ·cases lo with
  | none=>rfl
  | some v=>exact Ek v n 0
 cases hi with
 | none=>rfl
 | some v=>exact Ek v n n
def Ik(i j:Nat):Xy (i:Int) (j:Int) 1=j-i:=by delta Xy;grind
theorem Ep (p:aaH v o)(h:Q o s):hX (k5 prog w) A (acP v) Q E s:=by
 cases p with
 | none=>exact adk h
 | int i t=>exact slicePart_int h
def Qq{f:dn}{c d:cA}{lo hi:Option Int}{n:Nat}{Q:Int×Int×Nat->ey->Prop}(g:s.heap.IsSliceOf f c d .none)(i:aaH c lo)(j:aaH d hi)
 (h:Q (((bh n 0 lo:Nat):Int),1,bh n n hi-bh n 0 lo) s):hX (k5 prog w) A (Zx (.ref f)<|pure (n:Int)) Q E s:=by
 obtain⟨os,a,hcs,b⟩:=id g;refine cW<|cW<|abY a b (x:=c) ρ<|cW<|abY a b (x:=d) ρ<|cW<|abY a b ρ<|fm ?_;refine cW<|adk ?_;show hX _ _ (if ((1:Int)==0)=bi then _ else _) _ _ s;refine cW<|Ep i<|cW<|Ep j<|cW<|fm ?_;show hX _ _ (match Yj lo hi 1 (n:Int) with|(lo,hi)=>pure (lo,(1:Int),Xy lo hi 1)) _ _ s;rw[Km lo hi n];show hX _ _ (pure (((bh n 0 lo:Nat):Int),(1:Int),Xy ((bh n 0 lo:Nat):Int) ((bh n n hi:Nat):Int) 1)) _ _ s;rw[Ik];exact fm h
def Jn(xs:Array cA)(i k:Nat):((hB k).filterMap λ(m:Nat)=>xs[((i:Int)+(m:Int)*1).toNat]?).toArray=((xs.toList.drop i).take k).toArray:=by
 have e:(λ(m:Nat)=>xs[((i:Int)+(m:Int)*1).toNat]?)=λm=>xs[i+m]?:=by
  funext m;have:((i:Int)+(m:Int)*1).toNat=i+m:=by omega
  rw[this]
 rw[e];have:=pick_run xs i k;have a:((λx=>xs[x]?) ∘ λx=>i+x)=λm=>xs[i+m]?:=ρ;simp_all
theorem SV{t c:dn}{items:Array cA}{d f:cA}{lo hi:Option Int}{Q:cA->ey->Prop}(b:Yk s.heap t items)(g:s.heap.IsSliceOf c d f .none)(n:aaH d lo)(o:aaH f hi)
 (hw:¬(bh items.size 0 lo=0/\bh items.size items.size hi=items.size))
 (h:Q (.ref s.heap.objs.size) {s with heap:=s.heap.push {cls:=.type "tuple",data:=.seq ((items.toList.drop<|bh items.size 0 lo).take (bh items.size items.size hi-bh items.size 0 lo)).toArray} })
 (hsz:items.size<=dk):hX (k5 prog w) A (ZM (.ref t)<|.ref c) Q E s:=by
 have a:sizeOk (.seq ((items.toList.drop<|bh items.size 0 lo).take (bh items.size items.size hi-bh items.size 0 lo)).toArray):=by show ((items.toList.drop<|bh items.size 0 lo).take (bh items.size items.size hi-bh items.size 0 lo)).toArray.size<=dk;simp;omega
 obtain⟨os,i,j,hds⟩:=id g;have k:s.TypeIs (.ref c) "slice":=⟨os,i,j⟩;unfold ZM;try with_reducible refine u5 ?_
 first|refine cW (fm ?_)|skip
 refine cW<|wpAny_sequenceKey b.typeIs ⋯ ?_
 refine cW (Yd b.typeIs Xr
  (P' Xr b.typeIs entry_tuple_getitem ?_<|args_tuple_getitem _ _))
 show hX _ _ (acO (.ref t) >>= _) _ _ s;refine cW<|tupleItemsOf_ b ?_;refine cW<|abv k ?_;rw[if_pos ⋯];refine cW<|Qq g n o ?_;have l:¬((((bh items.size 0 lo:Nat):Int)==0&&(1:Int)==1&&(bh items.size items.size hi-bh items.size 0 lo)==items.size)=bi):=by simp_all
 show hX _ _ (if (((bh items.size 0 lo:Nat):Int)==0&&(1:Int)==1&&(bh items.size items.size hi-bh items.size 0 lo)==items.size)=bi then _ else _) _ _ s;rw[if_neg l,Jn]
 first
  | exact cW (WV (fm ⟨_,ρ,fm h⟩) a)
  | exact cW (WV (cW<|fm<|fm ⟨_,ρ,fm h⟩) a)
  | exact cW (cW<|WV (fm<|fm ⟨_,ρ,fm h⟩) a)
  | exact cW<|cW<|WV (fm ⟨_,ρ,fm h⟩) a
abbrev TO:=St->Hp->(Option Int->Hp->Prop)->Prop
def PO(X:Cx)(e:Option hH)(t:TO):Prop :=
 ∀(a:List (dn×Th)) (s:ey) (σ:St) (H:Hp) (Q:Option Int->Hp->Prop),Inv X a σ H s->t σ H Q ->
  hX (k5 X.prog X.w) X.A (evalPart e X.env) (λu s'=>∃o H',Inv X a σ H' s'/\aaH u o/\Q o H') X.xe s
def HU:TO:=λ_ H Q=>Q am H
def OM(t:TE):TO:=fun σ H Q=>t σ H λx a=>∃i,x=.int i/\Q (al i) a
theorem Jo:PO X am HU:=by exact fun pins s σ H Q I h=>fm ⟨am,H,I,.none,h⟩
def Rv(h:PE X e te):PO X (al e) (OM te):=by refine λa s σ H Q I hw=>aD (h a s σ H _ I hw) λu s1 g=>?_;obtain⟨x,b,c,d,f⟩:=g;obtain⟨i,rfl,q⟩:=f;obtain⟨t,rfl⟩:=d;exact⟨al i,b,c,.int i t,q⟩
def md(X:Cx)(r:V->Option Int->Option Int->Hp->VK->Prop):Prop :=
 ∀(a:List (dn×Th)) (s:ey) (σ:St) (H:Hp) (x:V) (v b c:cA) (lo hi:Option Int) (d:dn) (Q:VK),Inv X a σ H s->RelV x v->s.heap.IsSliceOf d b c .none->aaH b lo->aaH c hi->r x lo hi H Q ->
  ∃T id,aaV (.type T) "__getitem__"=pure (al<|.builtin id)/\s.TypeIs v T/\hX (k5 X.prog X.w) X.A (ZM v<|.ref d) (EP X a σ Q) X.xe s
def md.or (h:md X r)(h':md X b):md X (λx lo hi H Q=>r x lo hi H Q\/b x lo hi H Q):=by
 intro a s σ H x v c d lo hi f Q I rx g i j q;rcases q with q|q
 ·exact h a s σ H x v c d lo hi f Q I rx g i j q
 exact h' a s σ H x v c d lo hi f Q I rx g i j q
def M9(r:V->Option Int->Option Int->Hp->VK->Prop)(te:TE)(tl th:TO):TE:=fun σ H Q=>te σ H λx a=>tl σ a λl b=>th σ b λu c=>r x l u c Q
def K3 (i:md X r)(j:PE X e te)(hl:PO X lo tl)(k:PO X hi th):PE X (.Subscript e (.Slice lo hi am p2) pos) (M9 r te tl th):=by refine λa s σ H Q I h=>aa5 (aD (j a s σ H _ I h) λv m g=>?_);obtain⟨x,n,o,p,t⟩:=g;refine wpAny_Slice (aD (hl a m σ n _ o t) λd y ⟨l,z,B,C,D⟩=>aD (k a y σ z _ B D) λf c h=>?_);obtain⟨u,g,F,G,J⟩:=h;apply fm;have K:Inv X a σ g {c with heap:=c.heap.push {cls:=.type "slice",data:=.fields #[d,f,.none]} }:=F.kept (t':=c.toks) λb ob q=>e7 _ q;obtain⟨T,id,L,M,N⟩:=i a {c with heap:=c.heap.push {cls:=.type "slice",data:=.fields #[d,f,.none]} } σ g x v d f l u c.heap.objs.size Q K p (aaf ..) C G J;exact adi M L N (by with_unfolding_all rfl)
def jL(xs:List V)(lo hi:Option Int):List V:=(xs.drop<|bh xs.length 0 lo).take (bh xs.length xs.length hi-bh xs.length 0 lo)
def Bo(xs)(lo hi):(jL xs lo hi).length<=xs.length:=by delta jL;rw[hY,nS];lia
def JH(K:ft):V->Option Int->Option Int->Hp->VK->Prop:=λx lo hi H Q=>∃a xs,x=.ref a/\aS K H a xs /\
 ¬(bh xs.length 0 lo=0/\bh xs.length xs.length hi=xs.length)/\∀p,H p=am->Q (.ref p) (upd H p<|.U<|jL xs lo hi)
def JT:md X (JH X.K):=by
 intro pins s σ H x v vl vu lo hi sl Q I rx g i j h;obtain⟨a,xs,rfl,hx,hw,q⟩:=h;subst rx;obtain⟨its,r,d,f⟩:=I.tuple hx;have c:its.toArray.size=xs.length:=by rw[gs];exact r.length.symm
 refine⟨"tuple",_,Xr.lookup,d.typeIs,?_⟩;refine SV d g i j (by rw[c];exact hw) ?_ (by rw[c];exact f);rw[c];refine⟨.ref s.heap.objs.size,_,I.laid (λb ob q=>e7 _ q) (fj _) ?_,ρ,q _<|I.ak.fresh<|fj _⟩;exact⟨ia (Bo xs lo hi) f,_,(r.drop<|bh xs.length 0 lo).take (bh xs.length xs.length hi-bh xs.length 0 lo),abM _ _⟩
def G6(K:ft):R2:=λx y H Q=>∃a b xs ys,x=.ref a/\y=.ref b/\aS K H a xs/\aS K H b ys/\xs≠[]/\xs.length+ys.length<=dk /\
 (ys=[]->Q (.ref a) H)/\(ys≠[]->∀p,H p=am->Q (.ref p) (upd H p<|.U<|xs++ys))
theorem aC.x6 (r:aC xs us):us=[] ↔ xs=[]:=by
 cases r with
 | nil=>simp
 | cons _ _=>simp
def R5:aQ X (Xw .Add) (G6 X.K):=by intro pins s σ H x y v u Q I rx g h;obtain⟨a,b,xs,ys,rfl,rfl,i,j,hx,f,k,l⟩:=h;subst rx;subst g;obtain⟨its,d,m,_⟩:=I.tuple i;obtain⟨its2,c,p2,_⟩:=I.tuple j;refine RB m p2 (λz=>hx<|d.x6.1 z) (λz=>⟨.ref a,H,I,ρ,k<|c.x6.1 z⟩) (λz=>?_) (by rw[<-d.length,<-c.length];exact f);refine⟨.ref s.heap.objs.size,_,I.laid (λb ob q=>e7 _ q) (fj _) ?_,ρ,l (λw=>z<|c.x6.2 w) _<|I.ak.fresh<|fj _⟩;exact⟨by rw[eW];exact f,_,d.append c,abM _ _⟩
end
noncomputable def fZ(n:Nat)(i:Int):Option Nat:=if 0<=i then (if i<n then al i.toNat else am) else if -(n:Int)<=i then al (i+n).toNat else am
def di (xs:List a)(i:Int):Option a:=(fZ xs.length i).bind λj=>xs[j]?
def Bt (h:fZ n i=al j):seqIndex? i n=al j/\j<n/\-(n:Int)<=i/\i<n:=by
 delta fZ at h;by_cases b:0<=i
 ·rw[if_pos b] at h;by_cases a:i<n
  ·rw[if_pos a] at h;have e:=Option.some.inj h;exact⟨by rw[abZ b a,e],by omega,by omega,a⟩
  rw[if_neg a] at h;exact nO h
 rw[if_neg b] at h;by_cases a:-(n:Int)<=i
 ·rw[if_pos a] at h;have e:=Option.some.inj h;exact⟨by rw[aby (by omega) a,e],by omega,a,by omega⟩
 rw[if_neg a] at h;exact nO h
theorem zA{a:Type}{xs:List a}{i:Int}{v:a}(h:di xs i=al v):∃j,seqIndex? i xs.length=al j/\xs[j]?=al v/\j<xs.length/\-(xs.length:Int)<=i/\i<xs.length:=by
 delta di at h;cases e:fZ xs.length i with
 | none=>rw[e] at h;exact nO h
 | some j=>rw[e] at h;obtain⟨b,c,d,f⟩:=Bt e;exact⟨j,b,h,c,d,f⟩
def iY{a:Type}{xs:List a}{j:Nat}{v:a}(h:xs[j]?=al v):di xs (j:Int)=al v:=by have hj:=(cm.1 h).1;simp_all [fZ,di]
def oU(b:hH):Prop:=∀o i,aaL b false o i=operate [o,i] (ZM o i)
def lu(X:Cx)(r:R2):Prop :=
 ∀(value slice:hH) (a:List (dn×Th)) (s:ey) (σ:St) (H:Hp) (x y:V) (v u:cA) (Q:VK),Inv X a σ H s->RelV x v->RelV y u->r x y H Q ->
  aaL slice false v u=operate [v,u] (ZM v u)->hX (k5 X.prog X.w) X.A (abh value slice v u) (EP X a σ Q) X.xe s
def uv(X:Cx)(id:String)(r:V->List V->Hp->VK->Prop):Prop :=
 ∀(a:List (dn×Th)) (s:ey) (σ:St) (H:Hp) (x:V) (xs:List V) (v:cA) (us:List cA) (Q:VK),Inv X a σ H s->RelV x v->aC xs us->r x xs H Q ->
  hX (k5 X.prog X.w) X.A (call (.builtin id) (v::us)) (EP X a σ Q) X.xe s
section
variable{X:Cx}{a b:hH}{ta tb:TE}{pos:H9}
def lu.or (h:lu X r)(h':lu X d):lu X (λx y H Q=>r x y H Q\/d x y H Q):=by
 intro value slice c s σ H x y v u Q I rx e q f;rcases q with q|q
 ·exact h value slice c s σ H x y v u Q I rx e q f
 exact h' value slice c s σ H x y v u Q I rx e q f
def Fg (d:lu X r)(e:PE X a ta)(f:PE X b tb)(g:oU b):PE X (.Subscript a b pos) (ow r ta tb):=by exact λc s σ H Q I h=>aa5 (AH e f I h λv u i x y j k rx l q=>d a b c i σ j x y v u Q k rx l q<|g _ _)
def Dr(K:ft):R2:=λx y H Q=>∃p xs i v,x=.ref p/\y=.int i/\bA K H p xs/\di xs i=al v/\Q v H
def Cn(K:ft):R2:=λx y H Q=>∃p xs i v,x=.ref p/\y=.int i/\aS K H p xs/\di xs i=al v/\Q v H
def ET:R2:=λx y H Q=>∃z i c,x=.str z/\y=.int i/\z.length<=dk/\di z.cps.toList i=al c/\Q (.str ⟨#[c]⟩) H
def Qi:lu X (Dr X.K):=by
 intro value slice c s σ H x y v u Q I rx o h k;obtain⟨p,xs,i,z,rfl,rfl,A,B,q⟩:=h;subst rx;obtain⟨t,rfl⟩:=o;obtain⟨its,r,f,hz⟩:=I.list A;obtain⟨j,d,C,h3,D,E⟩:=zA B;obtain⟨w,l,m⟩:=r.get C;have hl:=r.length;have hn:=kZ;have e:EP X c σ Q w s:=⟨z,H,I,m,q⟩;by_cases n:0<=i
 ·have g:i.toNat=j:=by rw[abZ n E] at d;exact Option.some.inj d
  exact item_listR f.isList n (by omega) (by rw[g];simpa using l) e k
 have g:(i+(its.toArray.size:Int)).toNat=j:=by rw[aby ⋯ D] at d;rw[gs,<-hl];exact Option.some.inj d
 exact abK f.isList.typeIs aao.lookup
  (wpAny_getItem_list_neg f.isList ⋯ (by rw[gs]<;>omega) (by lia) (by rw[g];simpa using l) ⟨ρ,e⟩) k
def Jw:lu X (Cn X.K):=by
 intro value slice c s σ H x y v u Q I rx g h k;obtain⟨p,xs,i,z,rfl,rfl,l,m,q⟩:=h;subst rx;obtain⟨t,rfl⟩:=g;obtain⟨its,r,d,hz⟩:=I.tuple l;obtain⟨j,n,o,h3,h4,h5⟩:=zA m;obtain⟨w,A,e⟩:=r.get o;have hl:=r.length;have hn:=kZ;have f:EP X c σ Q w s:=⟨z,H,I,e,q⟩;exact abK d.typeIs Xr.lookup
  (getItem_tuple d (by lia) (by lia) (by rw[gs,<-hl];exact n) (by simpa using A) ⟨ρ,f⟩) k
def Fc(K:ft):R2:=λx y H Q=>Dr K x y H Q\/Cn K x y H Q\/ET x y H Q
def BG:lu X (Fc X.K):=Qi.or (Jw.or (by
  intro value slice pins s σ H x y v u Q I rx e h f;obtain⟨z,i,c,rfl,rfl,hz,g,q⟩:=h;obtain⟨t,rfl⟩:=rx;obtain⟨t',rfl⟩:=e;obtain⟨j,d,k,h3,l,m⟩:=zA g;have hl:z.cps.toList.length=z.length:=by simp[Str.length]
  rw[hl] at d l m;have hn:=kZ;exact adi (typeIs_str s z t) slot_str_getitem.lookup (getItem_str (by lia) (by rw[d];simpa using k) ⟨.str ⟨#[c]⟩,H,I.tok _,⟨_,ρ⟩,q⟩) f))
def P5(its:List cA)(n j:Nat)(u:cA):Yi (·.setIfInBounds j u) {cls:=.type "list",data:=.seq its.toArray n}={cls:=.type "list",data:=.seq (its.set j u).toArray n}:=by simp[Yi]
def Inv.L (I:Inv X c σ H s)(h:H p=al (.L xs)) :
  ∃(its:List cA) (n:Nat),aC xs its/\s.heap.get? p=al {cls:=.type "list",data:=.seq its.toArray n}/\xs.length<=sizeLine:=by
 obtain⟨z,its,n,r,e⟩:=I.ak p _ h;exact⟨its,n,r,e,z⟩
def Inv.LF{c:List (dn×Th)}{σ:St}{H:Hp}{s:ey}{p:dn}{xs ys:List V}{its its':List cA}{n d:Nat}{f:Th->Th}(I:Inv X c σ H s)(h:H p=al (.L xs))
 (i:s.heap.get? p=al {cls:=.type "list",data:=.seq its.toArray n})(g:f {cls:=.type "list",data:=.seq its.toArray n}={cls:=.type "list",data:=.seq its'.toArray d})(r:aC ys its')(j:ys.length<=dk)(t:Nat) :
  Inv X c σ (upd H p<|.L ys) {s with heap:=s.heap.update p f,toks:=t}:=by
 have e:(s.heap.update p f).get? p=al {cls:=.type "list",data:=.seq its'.toArray d}:=by rw[aaW f i (by rw[g]<;>rfl),g]
 apply I.write (by rw[h];trivial) (ι ρ) (λb u k q=>(Xu _ _<|Ne.symm k).trans q) ⟨_,e⟩;exact⟨j,its',d,r,e⟩
def Ox:V->V->V->Hp->(Hp->Prop)->Prop:=λo i v H Q=>∃p xs k j,o=.ref p/\i=.int k/\H p=al (.L xs)/\fZ xs.length k=al j/\Q (upd H p<|.L<|xs.set j v)
def set_list:BI X Ox:=by
 intro d s σ H o i v ov iv u Q I ro w x h;obtain⟨p,xs,k,j,rfl,rfl,g,y,q⟩:=h;subst ro;obtain⟨t,rfl⟩:=w;obtain⟨its,n,r,e,z⟩:=I.L g;obtain⟨c,h2,A,B⟩:=Bt y;have hl:=r.length;have hn:=kZ;have l:Inv X d σ (upd H p<|.L<|xs.set j v) {s with heap:=s.heap.update p (Yi (·.setIfInBounds j u))} :=
  I.LF g e (P5 its n j u) (r.set x j) (by rw[nL];exact z) s.toks
 by_cases m:0<=k
 ·have f:k.toNat=j:=by rw[abZ m B] at c;exact Option.some.inj c
  exact W.ki_setAt e m (by lia) (by simp_all) (by rw[f];exact⟨_,l,q⟩)
 have f:(k+(its.toArray.size:Int)).toNat=j:=by rw[aby (by omega) A] at c;rw[gs,<-hl];exact Option.some.inj c
 exact W.ki_setBack e (by omega) (by simp_all) (by lia) (by rw[f];exact⟨_,l,q⟩)
theorem J2(lo c)(n):(YA lo c am n).1=((bh n 0 lo:Nat):Int)/\(YA lo c am n).2.1=((bh n n c:Nat):Int)/\(YA lo c am n).2.2=1:=by
 refine⟨?_,?_,ρ⟩
 ·cases lo with
  | none=>simp[YA,bh]
  | some i=>simp only[YA,bh,abp,if_true];grind
 cases c with
 | none=>simp[YA,bh]
 | some i=>simp only[YA,bh,abp,if_true];grind
def L8(its:List cA)(lo c:Option Int):slicePick its.toArray lo c am=((its.drop<|bh its.length 0 lo).take (bh its.length its.length c-bh its.length 0 lo)).toArray:=by obtain⟨d,e,f⟩:=J2 lo c its.toArray.size;delta slicePick;simp only[d,e,f];simp only[sliceRange_one,pick_run]<;>rfl
def Jv(K:ft):V->Option Int->Option Int->Hp->VK->Prop:=λx lo c H Q=>∃a xs,x=.ref a/\bA K H a xs/\∀p,H p=am->Q (.ref p) (upd H p<|.L<|jL xs lo c)
def NP:md X (Jv X.K):=by intro pins s σ H x v vl vu lo c sl Q I rx f g i h;obtain⟨a,xs,rfl,hx,q⟩:=h;subst rx;obtain⟨its,r,e,j⟩:=I.list hx;have d:=r.length;refine⟨"list",_,aao.lookup,e.isList.typeIs,?_⟩;refine abc e.isList f g i .none ⋯ ?_ (by rw[gs]<;>omega);rw[L8,<-d];refine⟨.ref s.heap.objs.size,_,I.laid (λb ob q=>e7 _ q) (fj _) ?_,ρ,q _<|I.ak.fresh<|fj _⟩;exact⟨ia (Bo xs lo c) j,_,0,(r.drop<|bh xs.length 0 lo).take (bh xs.length xs.length c-bh xs.length 0 lo),ib _ ρ⟩
def Ud:aQ X (mu .NotIn) (λx y H Q=>∃i j,x=.str i/\y=.str j/\Q (.bl<|!(!(HT j i 0 j.length 1).isEmpty)) H):=by intro pins s σ H x y v u Q I rx c h;obtain⟨i,j,rfl,rfl,q⟩:=h;obtain⟨t,rfl⟩:=rx;obtain⟨t',rfl⟩:=c;exact notIn_str ⟨.bl _,H,I,ρ,q⟩
def KO:bP X (.builtin "len") (λxs H Q=>∃p ys,xs=[.ref p]/\(bA X.K H p ys\/aS X.K H p ys)/\Q (.int ys.length) H):=by
 intro pins s σ H xs us Q I r h;obtain⟨p,ys,rfl,d,q⟩:=h;obtain⟨u,rfl,rx⟩:=vals1 r;subst rx;have hn:=kZ;rcases d with d|d
 ·obtain⟨its,e,f,g⟩:=I.list d;have c:=e.length;exact Calls.call_len_list f.isList (by grind) ⟨.int ys.length,H,I.tok _,⟨s.toks+1,by rw[gs,c]⟩,q⟩
 obtain⟨its,e,f,g⟩:=I.tuple d;have c:=e.length;exact len_tuple f (by grind) ⟨.int ys.length,H,I.tok _,⟨s.toks+1,by rw[gs,c]⟩,q⟩
def Ou:bP X (.builtin "len") (λxs H Q=>∃z,xs=[.str z]/\z.length<=dk/\Q (.int z.length) H):=by intro pins s σ H xs us Q I r h;obtain⟨z,rfl,hz,q⟩:=h;obtain⟨u,rfl,t,rfl⟩:=vals1 r;have hn:=kZ;exact len_str (by lia) ⟨.int z.length,H,I.tok _,⟨_,ρ⟩,q⟩
def bP.or (h:bP X f r)(h':bP X f d):bP X f (λxs H Q=>r xs H Q\/d xs H Q):=by
 intro c s σ H xs us Q I rs q;rcases q with q|q
 ·exact h c s σ H xs us Q I rs q
 exact h' c s σ H xs us Q I rs q
def BK:bP X (.type "list") (λxs H Q=>∃p ys,xs=[.ref p]/\(bA X.K H p ys\/aS X.K H p ys)/\∀l,H l=am->Q (.ref l) (upd H l<|.L ys)):=by
 intro i s σ H xs us Q I r h;obtain⟨p,ys,rfl,d,q⟩:=h;obtain⟨u,rfl,rx⟩:=vals1 r;subst rx;have g:∀(its:List cA),aC ys its->ys.length<=dk->∀(h':ph) (c':Nat),(∀b v,s.heap.get? b=al v->h'.get? b=al v) ->
   h'.get? s.heap.objs.size=al {cls:=.type "list",dict:=am,data:=.seq its.toArray c',slots:=#[]}->EP X i σ Q (.ref s.heap.objs.size) {s with heap:=h'}:=λits c f h' c' kp e =>
  ⟨.ref s.heap.objs.size,_,I.laid kp (fj _) (show cB X.prog X.w _ h' _ (.L ys) from ⟨f,its,c',c,e⟩),ρ,q _<|I.ak.fresh<|fj _⟩
 rcases d with d|d
 ·obtain⟨its,c,j,f⟩:=I.list d;have k:=c.length;obtain⟨o,m,t,n,hd⟩:=j.isList;exact adp p (ι ρ) m t hd (λh' c' kp e=>g its c f h' c' kp e) (by simp_all)
 obtain⟨its,c,j,f⟩:=I.tuple d;have k:=c.length;obtain⟨o,m,t,n,hd⟩:=j;exact adp p (τ ρ) m t hd (λh' c' kp e=>g its c f h' c' kp e) (by simp_all)
def G9:bP X (.type "tuple") (λxs H Q=>∃p ys,xs=[.ref p]/\((bA X.K H p ys/\∀l,H l=am->Q (.ref l) (upd H l<|.U ys))\/(aS X.K H p ys/\Q (.ref p) H))):=by
 intro c s σ H xs us Q I r h;obtain⟨p,ys,rfl,h⟩:=h;obtain⟨u,rfl,rx⟩:=vals1 r;subst rx;rcases h with⟨d,q⟩|⟨d,q⟩
 ·obtain⟨its,f,g,i⟩:=I.list d;have hlen:=f.length;refine call_tuple_list g.isList (λh' kp=>?_) (by simp_all);have j:=I.kept (t':=s.toks) kp;have k:Inv X c σ (upd H h'.objs.size<|.U ys) {s with heap:=h'.push {cls:=.type "tuple",data:=.seq its.toArray} } :=
   j.laid (λb o e=>e7 _ e) (fj _) (⟨i,its,f,abM _ _⟩)
  exact⟨.ref h'.objs.size,_,k,ρ,q _<|j.ak.fresh<|fj _⟩
 obtain⟨its,f,g,i⟩:=I.tuple d;exact call_tuple_same g ⟨.ref p,H,I,ρ,q⟩
def Bs(K:ft)(T:String)(x:V)(H:Hp):Prop:=match x with
 | .str _=>T="str"
 | .int _=>T="int"
 | .ref p=>(T="list"/\∃xs,bA K H p xs)\/(T="tuple"/\∃o,K.lookup p=al o/\o.cls=.type "tuple"/\o.dict=am) \/
   (T="dict"/\((∃kvs,H p=al (.dK kvs))\/∃kvs,H p=al (.dT kvs)))\/(T="set"/\∃S n,H p=al (.set S n))
 | _=>False
theorem TQ (I:Inv X f σ H s)(r:RelV x v)(ty:Bs X.K T x H) :
  s.TypeIs v T/\∀a,v=.ref a->∃h,s.heap.get? a=al h/\h.dict=am:=by
 cases x with
 | str z=>obtain⟨t,rfl⟩:=r;cases (ty);simp[typeIs_str]
 | int i=>obtain⟨t,rfl⟩:=r;cases (ty);simp[acf]
 | ref p =>
  subst r;rcases ty with⟨rfl,xs,k⟩|⟨rfl,o,d,l,hd⟩|⟨rfl,d⟩|⟨rfl,S,n,d⟩
  ·obtain⟨its,_,j,_⟩:=I.list k;refine⟨j.isList.typeIs,λa e=>?_⟩;cases e;obtain⟨o,n,e,c,hd,_⟩:=j;exact⟨o,e,hd⟩
  ·refine⟨⟨o,I.ik p o d,l⟩,λa e=>?_⟩;cases e;exact⟨o,I.ik _ o d,hd⟩
  ·have z:∃o,s.heap.get? p=al o/\o.ExactDict:=by
    rcases d with⟨kvs,d⟩|⟨kvs,d⟩
    ·obtain⟨_,_,_,_,o,_,_,e,ex,_⟩:=I.ak p _ d;exact⟨o,e,ex⟩
    obtain⟨_,_,_,_,o,_,_,e,ex,_⟩:=I.ak p _ d;exact⟨o,e,ex⟩
   obtain⟨o,e,ex⟩:=z;refine⟨⟨o,e,ex.1⟩,λa g=>?_⟩;cases g;exact⟨o,e,ex.2.1⟩
  obtain⟨o,_,_,_,e,ex,_⟩:=I.ak p _ d;refine⟨⟨o,e,ex.1⟩,λa g=>?_⟩;cases g;exact⟨o,e,ex.2.1⟩
 | _=>exact Xt ty
def mn(K:ft)(T:String)(r:V->List V->Hp->VK->Prop)(to:TE)(t:TA):TE:=fun σ H Q=>to σ H λx c=>Bs K T x c/\t σ c λxs d=>r x xs d Q
variable{o e:hH}{es:List hH}{to:TE}{t:TA}{name:e6}{apos cpos:H9}{T id:String}{r:V->List V->Hp->VK->Prop}
def lQ(n:PlainAttrs T)(slot:Slot T name id)(j:typeOf (.builtin id)=pure (.type "method_descriptor"))(p:uv X id r)(q:PE X o to)(u:PA X (e::es) t)
 (f:X6 o name X.env (eval o X.env)=eval o X.env:=by rfl)
 (i:((XG cpos<|nk (e::es) X.env).all (λx=>!x.1)&&(adb cpos<|ab0 [] X.env).all (λx=>x.1.isSome)
   && bd ((e::es).length+([]:List aaU).length+(if ([]:List aaU).isEmpty then 0 else 1)<30))=bi:=by rfl)
 (g:(apos.endLine==cpos.line)=bi:=by rfl)(w:bN X e es:=by rfl)(d:(XG cpos<|nk es X.env).any (·.1)=bn:=by rfl) :
  PE X (.Call (.Attribute o name apos) (e::es) [] cpos) (mn X.K T r to t):=by
 refine λc s σ H Q I h=>wpAny_Call_method_late f i g ρ (aD (q c s σ H _ I h) λv y e=>?_);obtain⟨x,z,k,l,ty,A⟩:=e;obtain⟨B,C⟩:=TQ k l ty;refine⟨T,id,n,slot,j,B,C,?_⟩;have m:=u cpos c y σ z _ k A;rw[w] at m ⊢;refine Calls.callWith_builtin (by show (false||(XG cpos<|nk es X.env).any (·.1))=bn;rw[d]<;>rfl)<|Calls.evalArgs_plain ?_;exact aD m λus D ⟨vs,E,F,G,J⟩=>p c D σ E x vs v us Q F l G J
end
def ya(X:Cx)(id:String)(r:V->List V->Hp->VK->Prop):Prop :=
 ∀(a:List (dn×Th)) (s:ey) (σ:St) (H:Hp) (x:V) (xs:List V) (v:cA) (us:List cA) (Q:VK),Inv X a σ H s->RelV x v->aC xs us->r x xs H Q ->
  hX (k5 X.prog X.w) X.A (call (.builtin id) (v::us)) (EP X a σ Q) X.xe s
theorem aC.one (h:aC [x] us):∃u,us=[u]/\RelV x u:=by
 cases h with
 | cons r t=>cases t;exact⟨_,ρ,r⟩
theorem aC.two (h:aC [x,y] us):∃u v,us=[u,v]/\RelV x u/\RelV y v:=by
 cases h with
 | cons r t=>obtain⟨v,e,q⟩:=aC.one t;exact⟨_,v,by rw[e],r,q⟩
section
variable{X:Cx}{pins:List (dn×Th)}{σ:St}{H:Hp}{s:ey}{l b:dn}{xs ys zs:List V}{prog:kH}{w:pe}{A:qp}{E:cA->ey->Prop}
def Inv.xo{its its':List cA}{n:Nat}{f:Array cA->Array cA}{t':Nat}(I:Inv X pins σ H s)(a:H l=al (.L xs))
 (e:s.heap.get? l=al {cls:=.type "list",data:=.seq its.toArray n})(c:f its.toArray=its'.toArray)(d:aC ys its')(g:ys.length<=dk) :
  Inv X pins σ (upd H l<|.L ys) {s with heap:=s.heap.update l<|Yi f,toks:=t'}:=by
 have q:=PySem.IsL.update e f;rw[c] at q;apply I.write (by rw[a];exact trivial) (ι ρ) (λb' u h i=>(Xu s.heap (Yi f)<|Ne.symm h).trans i) ⟨_,q⟩;exact⟨g,its',_,d,q⟩
def Inv.wD (I:Inv X pins σ H s)(a:aC ys its)(c:ys.length<=dk) :
  Inv X pins σ (upd H s.heap.objs.size<|.L ys) {s with heap:=s.heap.push {cls:=.type "list",data:=.seq its.toArray},toks:=t'} :=
 I.laid (λ_ _ q=>e7 _ q) (fj _) ⟨c,its,0,a,ib _ ρ⟩
def Inv.fresh(I:Inv X pins σ H s):H s.heap.objs.size=am:=I.ak.fresh<|fj _
def Inv.uW(I:Inv X pins σ H s)(a:H l=al (.L xs)):xs.length<=dk/\∃(its:List cA) (n:Nat),aC xs its/\xs.length=its.length/\s.heap.get? l=al {cls:=.type "list",data:=.seq its.toArray n}:=by obtain⟨z,its,n,r,e⟩:=I.ak l _ a;exact⟨z,its,n,r,r.length,e⟩
def ML (h:n<=dk):XI n=bn:=by simp_all [XI]
def uc:V->List V->Hp->VK->Prop:=λx vs H Q=>∃l xs y,x=.ref l/\vs=[y]/\H l=al (.L xs)/\xs.length<dk/\Q .aU (upd H l<|.L<|xs++[y])
def vm:ya X "list.append" uc:=by intro pins s σ H x vs v us Q I rx c h;obtain⟨l,xs,y,rfl,rfl,a,hz,q⟩:=h;subst rx;obtain⟨u,rfl,d⟩:=c.one;obtain⟨z,its,n,r,hl,e⟩:=I.uW a;refine YV X0 ⟨_,e,ρ⟩ F.entry_list_append (F.args_list_append_2 _ _) (PySem.list_append l its.toArray n u (by rw[gs];omega)) ⟨e,?_⟩;refine⟨.aU,_,I.xo a e ⋯ (r.append<|.cons d .nil) ?_,ρ,q⟩;rw[eW,Hz];omega
def A6:V->List V->Hp->VK->Prop:=fun x vs H Q=>∃l b xs zs,x=.ref l/\vs=[.ref b]/\H l=al (.L xs)/\H b=al (.L zs)/\xs.length+zs.length<=dk/\Q .aU (upd H l<|.L<|xs++zs)
theorem JL:ya X "list.extend" A6:=by
 intro pins s σ H x vs v us Q I rx f h;obtain⟨l,b,xs,zs,rfl,rfl,d,g,hz,q⟩:=h;subst rx;obtain⟨u,rfl,i⟩:=f.one;subst i;obtain⟨z,its,n,r,hl,e⟩:=I.uW d;obtain⟨z2,a,j,k,hl2,m⟩:=I.uW g;have hsz:its.toArray.size+a.toArray.size<=sizeLine:=by rw[gs,gs];omega
 have c:¬(!its.toArray.isEmpty&&XI (its.toArray.size+a.toArray.size))=bi:=by rw[ML hsz,Bool.and_false];exact ZI
 refine YV aa1 ⟨_,e,ρ⟩ F.entry_list_extend (F.args_list_extend_2 _ _)
  (AutoSeq1.list_extend_list_list_0 l its.toArray n b a.toArray j c (by rw[gs];omega) (by omega)) ⟨e,m,?_⟩
 refine⟨.aU,_,I.xo (its':=its++a) d e (by simp) (r.append k) ?_,ρ,q⟩;rw[eW];omega
set_option maxRecDepth 100000 in
end
section
variable{κ:Type}[DecidableEq κ]
noncomputable def fM(kvs:List (κ×V))(k:κ):Option V:=(kvs.find? λa=>bd<|a.1=k).map (·.2)
noncomputable def putK(kvs:List (κ×V))(k:κ)(v:V):List (κ×V) :=
 if (kvs.any λa=>bd<|a.1=k)=bi then kvs.map (λa=>if a.1=k then (a.1,v) else a) else kvs++[(k,v)]
def rO{p:κ×V}{r:List (κ×V)}{k:κ}(e:p.1=k):fM (p::r) k=al p.2:=by simp[fM,Zd,e]
def rV{p:κ×V}{r:List (κ×V)}{k:κ}(e:¬p.1=k):fM (p::r) k=fM r k:=by simp[fM,Zd,e]
theorem vz(k):∀kvs:List (κ×V),(kvs.any λa=>bd<|a.1=k)=(fM kvs k).isSome
 | []=>rfl
 | p::r=>by
  simp;by_cases e:p.1=k
  ·simp only[rO e,decide_eq_true e,Bool.true_or,Option.isSome_some]
  simp only[rV e,decide_eq_false e];exact vz k r
theorem yP(kvs:List (κ×V))(k:κ)(v:V):(putK kvs k v).length<=kvs.length+1:=by
 unfold putK;split
 ·simp only[bt];lia
 simp
theorem j5.rY (r:j5 o u):o.isSome=u.isSome:=by
 cases o with
 | none=>cases u with
  | none=>rfl
  | some _=>exact (r).elim
 | some _=>cases u with
  | none=>exact (r).elim
  | some _=>rfl
theorem KV.val{kvs:List (κ×V)}{vs:List (κ×cA)}(r:KV kvs vs)(k:κ):j5 (fM kvs k) (abw vs k):=by
 unfold KV at r;induction r with
 | nil=>exact Yf
 | @cons p q ps a h t ih =>
  obtain⟨c,d⟩:=h;by_cases e:p.1=k
  ·have f:=c.symm.trans e;have b:abw (q::a) k=al q.2:=by simp[abw,Zd,f]
   rwa[rO e,b]
  simp_all [abw,rV]
theorem KV.any (r:KV kvs vs)(k:κ):(kvs.any λa=>bd<|a.1=k)=vs.any λa=>bd (a.1=k):=by
 induction r with
 | nil=>rfl
 | cons h t b=>rw[XX,XX,b,h.1]
theorem KV.jV (r:KV kvs vs)(k:κ)(c:RelV y u) :
  KV (kvs.map λa=>if a.1=k then (a.1,y) else a) (vs.map λa=>if a.1=k then (a.1,u) else a):=by
 unfold KV at r ⊢;induction r with
 | nil=>exact .nil
 | @cons p q ps qs h t d =>
  rw[iW,iW];refine .cons ?_ d;obtain⟨b,h2⟩:=h;by_cases e:p.1=k
  ·rw[if_pos e,if_pos<|b.symm.trans e];exact⟨b,c⟩
  simp_all
def KV.put (r:KV kvs vs)(k:κ)(a:RelV y u):KV (putK kvs k y) (stored vs k u):=by
 delta putK stored;rw[r.any k];by_cases e:(vs.any λb=>bd<|b.1=k)=bi
 ·rw[if_pos e,if_pos e];exact r.jV k a
 rw[if_neg e,if_neg e];exact Paired.snoc r ⟨ρ,a⟩
theorem KV.keys{kvs:List (κ×V)}{vs:List (κ×cA)}(r:KV kvs vs):kvs.map (·.1)=vs.map (·.1):=by
 induction r with
 | nil=>rfl
 | cons h t a=>rw[iW,iW,a,h.1]
def KV.length (r:KV kvs vs):kvs.length=vs.length:=Paired.length r
end
theorem pj (r:RelV (kV k) u):(cF P w).is k u=bi:=by
 cases k with
 | inl i=>obtain⟨t,e⟩:=(r);subst e;exact (λprog w i t=>Oy i t) P w i t
 | inr x=>obtain⟨t,e⟩:=(r);subst e;exact (λprog w x t=>G7 x t) P w x t
theorem B2:∀{a:List Key}{us:List cA},aC (a.map kV) us->ItemsAre (cF P w) a us
 | [],_,r=>by rw[Yz] at r;cases r;exact .nil
 | k::a,_,r=>by
  cases r with
  | cons h t=>exact .cons (pj h)<|B2 t
abbrev KT(H:Hp):List (List Key×V)->List (List Key×dn×cA)->Prop:=XW λp q=>p.1=q.1/\H q.2.1=al (.U<|p.1.map kV)/\RelV p.2 q.2.2
theorem KT.val{H:Hp}{kvs:List (List Key×V)}{xs:List (List Key×dn×cA)}(r:KT H kvs xs)(k:List Key):j5 (fM kvs k) ((ab2 xs k).map (·.2)):=by
 induction r with
 | nil=>exact Yf
 | @cons p q ps a h t ih =>
  obtain⟨c,_,d⟩:=h;by_cases e:p.1=k
  ·have f:=c.symm.trans e;have b:ab2 (q::a) k=al q.2:=by simp[ab2,Zd,f]
   rwa[rO e,b]
  simp_all [ab2,rV]
theorem KT.jV (r:KT H kvs xs)(k:List Key)(d:RelV y u) :
  KT H (kvs.map λb=>if b.1=k then (b.1,y) else b) (xs.map<|putAt k u):=by
 induction r with
 | nil=>exact .nil
 | @cons p q ps qs h t f =>
  simp;refine .cons ?_ f;obtain⟨a,c,g⟩:=h;delta putAt;by_cases e:p.1=k
  ·rw[if_pos e,if_pos<|a.symm.trans e];exact⟨a,c,d⟩
  rw[if_neg e,if_neg<|λz=>e<|a.trans z];exact⟨a,c,g⟩
def KT.put (r:KT H kvs xs)(k:List Key)(c:H b=al (.U<|k.map kV))(a:RelV y u) :
  KT H (putK kvs k y) (storedH xs k b u):=by
 have e:(kvs.any λd=>bd<|d.1=k)=(ab2 xs k).isSome:=by rw[vz,(r.val k).rY,ZC]
 delta putK storedH;rw[e];by_cases q:(ab2 xs k).isSome=bi
 ·rw[if_pos q,if_pos q];exact r.jV k a
 rw[if_neg q,if_neg q];exact Paired.snoc r ⟨ρ,c,a⟩
def KT.keeps (r:KT H kvs xs)(a:∀b ys,H b=al (.U ys)->H' b=al (.U ys)):KT H' kvs xs :=
 Paired.qH r λ_ _ z=>⟨z.1,a _ _ z.2.1,z.2.2⟩
section
variable{P:kH}{w:pe}{H:Hp}{h:ph}{a:dn}{X:Cx}{pins:List (dn×Th)}{σ:St}{s:ey}{y v:V}{u r:cA}{o:Option V}{A:qp}{E:cA->ey->Prop}
def zB{u:HO}(ok:bZ P w H h)(e:Rd H a u):cB P w H h a u:=e.ok ok
def kR (ok:bZ P w H h)(e:Rd H a (.dK kvs)):kvs.length<=dk/\(a==Xm)=bn/\∃vs,KV kvs vs/\h.DictOf (cF P w) a vs :=
 show cB P w H h a (.dK kvs) from zB ok e
def rZ (ok:bZ P w H h)(e:H a=al (.U<|b.map kV)):(aaG<|cF P w).is h b a:=by obtain⟨_,its,r,o,c,d,n,f⟩:=(ok a _ e);exact⟨o,its.toArray,n,c,d,f,by simpa using B2 r⟩
theorem rE (ok:bZ P w H h)(e:Rd H a (.dT kvs)):kvs.length<=dk/\(a==Xm)=bn /\
  ∃xs,KT H kvs xs/\h.DictOfH (aaG<|cF P w) a xs:=by
 obtain⟨z,y,xs,r,o,b,ep,c,d,f,g,i⟩:=(zB ok e);refine⟨z,y,xs,r,o,b,ep,c,d,f,g,λx hx=>?_,i⟩;have all:∀{l:List (List Key×V)}{m:List (List Key×dn×cA)},KT H l m->∀x∈m,(aaG<|cF P w).is h x.1 x.2.1:=by
  intro l m q;induction q with
  | nil=>simp
  | @cons p q ps qs hq t j =>
   intro x hx;rcases eS.1 hx with e|hx
   ·exact rZ ok (by simp_all)
   exact j x hx
 exact all r x hx
def jx(H:Hp)(a:dn)(y:V)(r:Option V):Prop :=
 (∃kvs k,Rd H a (.dK kvs)/\y=kV k/\r=fM kvs k)\/∃kvs k b,Rd H a (.dT kvs)/\y=.ref b/\H b=al (.U<|k.map kV)/\r=fM kvs k
def ml(H:Hp)(a:dn)(y v:V)(H':Hp):Prop :=
 (∃kvs k,H a=al (.dK kvs)/\y=kV k/\kvs.length<dk/\H'=upd H a (.dK<|putK kvs k v)) \/
 ∃kvs k b,H a=al (.dT kvs)/\y=.ref b/\H b=al (.U<|k.map kV)/\kvs.length<dk/\H'=upd H a (.dT<|putK kvs k v)
theorem jx.k{H:Hp}{a:dn}{kvs:List (Key×V)}{k:Key}(e:H a=al (.dK kvs)):jx H a (kV k) (fM kvs k):=ι ⟨kvs,k,ι e,ρ,ρ⟩
theorem ml.k{H:Hp}{a:dn}{kvs:List (Key×V)}{k:Key}{v:V}(e:H a=al (.dK kvs))(hl:kvs.length<dk):ml H a (kV k) v (upd H a<|.dK<|putK kvs k v):=ι ⟨kvs,k,e,ρ,hl,ρ⟩
def ml.t{H:Hp}{a b:dn}{kvs:List (List Key×V)}{k:List Key}{v:V}(e:H a=al (.dT kvs))(c:H b=al (.U<|k.map kV))(hl:kvs.length<dk) :
  ml H a (.ref b) v (upd H a<|.dT<|putK kvs k v):=τ ⟨kvs,k,b,e,ρ,c,hl,ρ⟩
def Inv.zO(I:Inv X pins σ H s):Xm<s.heap.objs.size:=by exact Zc (by decide)<|(I.mod.glob.keeps I.bk).lt
def OG (n:A.units+1<zR)(I:Inv X pins σ H s)(g:jx H a y (al v))(j:RelV y u)(h:∀c s',Inv X pins σ H s'->RelV v c->Q c s') :
  hX (k5 X.prog X.w) A (ZM (.ref a) u) Q E s:=by
 rcases g with⟨kvs,k,e,i,l⟩|⟨kvs,k,b,e,i,q,l⟩
 ·subst i;obtain⟨z,hd,vs,d,dd⟩:=kR I.ak e;obtain⟨c,hw,f⟩:=j5.some_of (by rw[l];exact d.val k);exact wpAny_getItem_of (pj j) dd.mapOf hw<|h c _ (I.tok _) f
 subst i;cases (j);obtain⟨z,hd,xs,d,dd⟩:=rE I.ak e;obtain⟨c,hw,f⟩:=j5.some_of (by rw[l];exact d.val k);obtain⟨p,t,m⟩:=gW.1 hw;apply wpAny_getItem_heap (YU n) (rZ I.ak q) dd t;simp[m];exact h c _ (I.tok _) f
def Rm (i:A.units+1<zR)(I:Inv X pins σ H s)(g:jx H a y o)(f:RelV y u)(h:∀s',Inv X pins σ H s'->Q (.bool o.isSome) s') :
  hX (k5 X.prog X.w) A (mu .In u<|.ref a) Q E s:=by
 rcases g with⟨kvs,k,e,d,l⟩|⟨kvs,k,b,e,d,j,l⟩
 ·subst d;obtain⟨z,hd,vs,c,dd⟩:=kR I.ak e;apply wpAny_in_of (pj f) hd dd.mapOf;rw[<-(c.val k).rY,<-l];exact h _<|I.tok _
 subst d;cases (f);obtain⟨z,hd,xs,c,dd⟩:=rE I.ak e;apply wpAny_in_heap (YU i) (rZ I.ak j) hd dd;have q:=(c.val k).rY;rw[ZC] at q;simp only[<-q,<-l];exact h _<|I.tok _
def J0 (i:A.units+1<zR)(I:Inv X pins σ H s)(g:jx H a y o)(f:RelV y u)(h:∀s',Inv X pins σ H s'->Q (.bool<|!o.isSome) s') :
  hX (k5 X.prog X.w) A (mu .NotIn u<|.ref a) Q E s:=by
 rcases g with⟨kvs,k,e,d,l⟩|⟨kvs,k,b,e,d,j,l⟩
 ·subst d;obtain⟨z,hd,vs,c,dd⟩:=kR I.ak e;apply wpAny_notIn_of (pj f) hd dd.mapOf;rw[<-(c.val k).rY,<-l];exact h _<|I.tok _
 subst d;cases (f);obtain⟨z,hd,xs,c,dd⟩:=rE I.ak e;apply wpAny_notIn_heap (YU i) (rZ I.ak j) hd dd;have q:=(c.val k).rY;rw[ZC] at q;simp only[<-q,<-l];exact h _<|I.tok _
def Ct (I:Inv X pins σ H s)(f:qS (H a))(g:Y3 a s.heap h')(i:∃q,h'.get? a=al q)(d:cB X.prog X.w (upd H a c) h' a c) :
  Inv X pins σ (upd H a c) {s with heap:=h',toks:=t'} :=
 I.write f (ι ρ) (λb q j z=>(g.2 b j).trans z) i d
def Be (z:kvs.length<=dk)(hd:(a==Xm)=bn)(b:KV kvs vs)(dd:h'.DictOf (cF P w) a vs) :
  cB P w H' h' a (.dK kvs):=⟨z,hd,vs,b,dd⟩
def Jp (C:A.units+1<zR)(I:Inv X pins σ H s)(g:ml H a y v H')(t:RelV y u)(x:RelV v r)(h:∀s',Inv X pins σ H' s'->Q () s') :
  hX (k5 X.prog X.w) A (abx (.ref a) u r) Q E s:=by
 rcases g with⟨kvs,k,e,j,l,m⟩|⟨kvs,k,b,e,j,B,l,m⟩
 ·subst j m;obtain⟨z,hd,vs,d,dd⟩:=(λok e=>kR ok<|ι e) I.ak e;have n:vs.length<=sizeLine:=by rw[<-d.length];exact z
  have hl:(putK kvs k v).length<=sizeLine:=by grind [yP]
  refine wpAny_setItem_pairs (hsz:=n) (pj t) dd λh' f p=>h _ ?_;have D:∃q,h'.get? a=al q:=let ⟨q,_,_,i,_⟩:=f;⟨q,i⟩
  exact Ct I (by rw[e];exact Yf) p D<|Be hl hd (d.put k x) f
 subst j m;cases (t);obtain⟨z,hd,xs,d,dd⟩:=(λok e=>rE ok<|ι e) I.ak e;have n:xs.length<=sizeLine:=by rw[<-Paired.length d];exact z
 have hl:(putK kvs k v).length<=sizeLine:=by grind [yP]
 refine wpAny_setItem_heap (hsz:=n) (YU C) (rZ I.ak B) dd λh' f p=>h _ ?_;obtain⟨q,F,ep,i,G,J,K,_,L⟩:=f;refine Ct I (by rw[e];exact Yf) p ⟨q,i⟩ ⟨hl,hd,_,(d.put k B x).keeps λc ys M=>?_,q,F,ep,i,G,J,K,L⟩;rw[ax (by lia)];exact M
end
section
variable{X:Cx}{pins:List (dn×Th)}{σ:St}{H:Hp}{s:ey}{a:dn}{kvs:List (Key×V)}{k:Key}{u:cA}{A:qp}{E:cA->ey->Prop}
def Lb (I:Inv X pins σ H s)(e:Rd H a (.dK kvs))(h:∀t s',Inv X pins σ H s'->Q (.int kvs.length t) s'):hX (k5 X.prog X.w) A (call (.builtin "len") [.ref a]) Q E s:=by obtain⟨z,hd,vs,b,dd⟩:=kR I.ak e;apply call_len_dict hd dd (by rw[<-b.length];rw[zd] at z;omega);rw[<-b.length];exact h _ _<|I.tok _
end
def DP(i:hH):Prop:=∀a b,aaL i false a b=operate [a,b] (ZM a b)
theorem IL{prog:kH}{w:pe}{A:qp}{E:cA->ey->Prop}{s:ey}{env:ZO}{value slice:hH}{pos:H9}{T id:String}{Q:cA->ey->Prop}
 (hl:aaV (.type T) "__getitem__"=pure (al<|.builtin id))(k:DP slice)
 (h:hX (k5 prog w) A (eval value env) (λo c=>hX (k5 prog w) A (eval slice env) (λi a=>a.TypeIs o T/\hX (k5 prog w) A (ZM o i) Q E a) E c) E s) :
  hX (k5 prog w) A (eval (.Subscript value slice pos) env) Q E s:=by
 refine aa5 (W7 h (λo c f=>W7 f (λi a b=>?_) λ_ _ x=>x) λ_ _ x=>x);obtain⟨j,b⟩:=b;apply cW;refine cW<|wpAny_specialOf j hl ?_;have d:hX (k5 prog w) A (aaL slice false o i) (λr e=>hX (k5 prog w) A (letTemporaryGo value o r >>= λ_=>pure r) Q E e) E a:=by rw[k o i];exact wpAny_operating (W7 b (λr e g=>cW<|wpAny_letTemporaryGo<|fm g) λ_ _ x=>x)
 first
  | exact fm (cW d)
  | exact cW (fm<|cW d)
  | exact cW d
def Qn(c ty:TE):TE:=fun σ H Q=>c σ H λx d=>ty σ d λy b=>∃a v,x=.ref a/\jx b a y (al v)/\Q v b
def O5(c ty d:TE):TS:=λD σ H=>d σ H λv e=>c σ e λx f=>ty σ f λy g=>∃a b,x=.ref a/\ml g a y v b/\D.nx σ b
section
variable{X:Cx}{o i e value:hH}{pos pos' tpos:H9}{td ty tv:TE}{pins:List (dn×Th)}{σ:St}{H:Hp}{s:ey}{a:dn}{kvs:List (Key×V)}{A:qp}{E:cA->ey->Prop}
def zV(d:X.A.units+1<zR)(f:PE X o td)(j:PE X i ty)(k:DP i):PE X (.Subscript o i pos) (Qn td ty):=by
 refine λpins s σ H Q I h=>IL PySem.F.slot_dict_getitem.lookup k (aD (f pins s σ H _ I h) λu l ⟨x,m,n,rx,p⟩=>aD (j pins l σ m _ n p) λiv s2 e=>?_);obtain⟨y,q,b,r,a,v,ex,g,t⟩:=e
 subst ex;obtain rfl:u=Xh a:=rx;exact⟨(λI g=>by
   rcases g with⟨kvs,k,e,_,_⟩|⟨kvs,k,b,e,_,_,_⟩
   ·obtain⟨_,_,vs,_,dd⟩:=kR I.ak e;exact dd.typeIs
   obtain⟨_,_,xs,_,dd⟩:=rE I.ak e;exact dd.typeIs) b g,OG d b g r λw' s3 w c=>⟨v,q,w,c,t⟩⟩
def D'(b:X.A.units+1<zR)(c:PE X o td)(d:PE X i ty)(f:PE X value tv)(j:Fs value (al<|.Subscript o i pos') pos.line X.env=pure false) :
  PS X (.Assign [.Subscript o i pos'] value pos) (O5 td ty tv):=by
 refine λpins s σ H D I h=>wpAny_Assign_Subscript (aD (f pins s σ H _ I h) λr k ⟨v,l,m,n,p⟩=>aD (c pins k σ l _ m p) λu q ⟨x,t,w,rx,z⟩=>aD (d pins q σ t _ w z) λiv s3 e=>?_) j;obtain⟨y,H3,B,C,a,F,ex,g,G⟩:=e;subst ex;obtain rfl:u=Xh a:=rx;exact Jp b B g C n λs4 J=>⟨σ,F,J,G⟩
def TV:TE:=λ_ H Q=>∀p,H p=am->Q (.ref p) (upd H p<|.dT [])
def QY:PE X (.Dict [] [] pos) TV:=λpins s σ H Q I h =>
 wpAny_Dict_empty ⟨.ref s.heap.objs.size,_,I.laid (λ_ _ q=>e7 _ q) (fj _) ((λh b=>
   ⟨pd _,beq_eq_false_iff_ne.2<|Ne.symm<|hQ b,[],.nil,_,#[],0,ib _ ρ,⟨ρ,ρ,ρ⟩,ρ,ρ,Dl⟩) s.heap I.zO),ρ,h _<|I.ak.fresh<|fj _⟩
def mz(kvs more:List (Key×V)):List (Key×V):=more.foldl (λb c=>putK b c.1 c.2) kvs
theorem KV.merge:∀{more:List (Key×V)}{rs:List (Key×cA)}{kvs:List (Key×V)}{vs:List (Key×cA)},KV more rs->KV kvs vs->KV (mz kvs more) (abA vs rs):=by
 intro more rs kvs vs r;induction r generalizing kvs vs with
 | nil=>exact fun q=>q
 | @cons p q ps qs h t b =>
  intro c;have e:KV (putK kvs p.1 p.2) (stored vs q.1 q.2):=by rw[<-h.1];exact c.put p.1 h.2
  exact b e
theorem FR:∀(more kvs:List (Key×V)),(mz kvs more).length<=kvs.length+more.length
 | [],kvs=>by show kvs.length<=kvs.length+0;omega
 | p::r,kvs=>by have h1:=FR r<|putK kvs p.1 p.2;have h2:=yP kvs p.1 p.2;grind [mz]
def Nx (I:Inv X pins σ H s)(e:Rd H a (.dK kvs))(h:∀p s',H p=am->Inv X pins σ (upd H p<|.dK kvs) s'->Q (.ref p) s'):hX (k5 X.prog X.w) A (call (.type "dict") [.ref a]) Q E s:=by obtain⟨z,hd,vs,c,dd⟩:=kR I.ak e;refine kt_call_dict hd dd (by rw[<-c.length];exact z) λh' d g=>?_;refine h _ _ (I.ak.fresh<|fj _)<|I.laid (λb q f=>?_) (fj _)<|Be z (beq_eq_false_iff_ne.2<|Ne.symm<|hQ I.zO) c d;exact (g.2 b<|hQ<|gg f).trans (e7 _ f)
end
section
open PySem.W PySem.Calls
theorem Jh:∀(c:List Int) (vs:List cA),WellAll P h vs (c.map acW)->acA vs c:=by
 intro c;induction c with
 | nil=>intro vs w;cases w;exact .nil
 | cons n c d =>
  intro vs w;cases w with
  | cons a b =>
   cases a;exact .cons _ _<|d _ b
theorem Pp{l:abQ}{n:Nat}(m:l.most=al n){P:Params}{h:ph}{args:List WData}{c:List cA}
 (e:l.row.toRowW.claim.pre args=bi)(j:WellAll P h c args) :
  ∃a vs b,c=[Xh a]/\args=[WData.list (b.map acW)]/\h.get? a=al {cls:=.type "list",data:=.seq vs.toArray}/\acA vs b/\b.length<=n:=by
 have oJ:WShape.hasAll [] args [.list .int]=bi:=(pre_splitW e).1;have k:l.pre.holds [] {args:=args}=bi:=(pre_splitW e).2;obtain⟨d,r,rfl,o,p⟩:=hasAllW_cons oJ;obtain rfl:=hasAllW_nil p;obtain⟨xs,rfl,q⟩:=hasW_list o;obtain⟨b,rfl⟩:=items_int q;have g:b.length<=n:=by
  have f:(WTm.not<|.lt (.lit<|.int (n:Int))<|.len<|.arg 0).holds [] {args:=[.list (b.map .int)]}=bi:=by have f:=(holds_andW k).1;rwa[m] at f
  have h5:=condW_of f<|w_not<|w_lt w_lit<|w_len_list<|w_arg ρ;simp_all
 cases j with
 | cons s t =>
  cases t;cases s with
  | list u i=>exact⟨_,_,b,ρ,ρ,u,Jh b _ i,g⟩
def SA(l:abQ)(args:List WData):l.row.toRowW.claim.post args (.bool true) args=bi :=
 postW_of
  rfl
  (w_eq_bool (w_res ρ) w_lit) rfl
end
theorem Sd{vs:List cA}{a:List Int}(h:acA vs a):aC (a.map V.int) vs:=by
 induction h with
 | nil=>exact .nil
 | cons n t _ b=>exact .cons ⟨t,ρ⟩ b
def Fe(H:Hp):Prop:=∀b,H b=am\/∃o xs,H b=al (.aV o<|.L xs)
theorem N8{P:kH}{w:pe}{K:ft}{mg A:e6->Option cA}{CX:jP}{k:Nat}{fa a:dn}{J:kq}{x:e6}{sp:Sp}{c:ey}{vs:List cA}{j:List Int}
 (L:K.In c.heap)(t:c.heap.Ns k7 mg)(f:c.heap.Ns aci A)(M:∀x:e6,x≠"__name__"->A x=Xf x)(B:c.heap.NoLimit)(X:c.gens=#[])
 (C:c.heap.get? a=al {cls:=.type "list",data:=.seq vs.toArray})(N:acA vs j)(hl:j.length<=dk)(Y:bY k abD)
 (F:∀base:ph,K.In base->base.Ns k7 mg->br P w K mg base CX k fa J [x] sp)(p:∀(s:ey) (u:cA),abJ s J ⟨[u],[]⟩ [(x,u)])
 (O:∀H:Hp,Fe H->bA K H a (j.map V.int)->sp [.ref a] H (λv _=>v=.bl true) λ_ _ _=>False)
 (Q:∀H e s',CX [] H c (λ_ _ _=>False) e s'->False) :
  Zp (k5 P w) abD (.call (.ref fa) ⟨[.ref a],[]⟩) (λr s'=>r=.ok (.ret<|.bool true)/\OldK c.heap s'.heap/\s'.os=c.os/\ZP s'.gens) c:=by
 have R:=Sd N;have D:=N.length;have l:∀H:Hp,Fe H->bA K H a (j.map V.int)->bZ P w H c.heap->(∀b,H b≠am->b=a)->(H a≠am->K.lookup a=am) ->
   Zp (k5 P w) abD (.call (.ref fa) ⟨[.ref a],[]⟩) (λr s'=>r=.ok (.ret<|.bool true)/\OldK c.heap s'.heap/\s'.os=c.os/\ZP s'.gens) c:=by
  intro H S Z ak hA hK;have g:∀{b:dn}{o:Th},c.heap.get? b=al o->H b=am->(kU c.heap H).get? b=al o:=λe n=>(λe n=>
    W.hideAll_get _ e λa=>by
     have q:=(f'.1 a).2
     simp_all) e n
  have T:∀{b:dn}{o:Th}{E:Array Yv}{ep:Nat},c.heap.get? b=al o->o.data=.dict E ep->H b=am:=by grind
  have i:∀{b:dn}{m:e6->Option cA},c.heap.Ns b m->(kU c.heap H).Ns b m:=λ{b m} ⟨o,E,ep,e,d,r⟩=>⟨o,E,ep,g e<|T e d,d,r⟩
  have y:K.In (kU c.heap H):=λb o e=>g (L b o e) (by grind)
  have hM:Mod K mg (kU c.heap H):=⟨y,i t,⟨A,i f,M⟩,let ⟨mc,h1,h2⟩:=B;⟨mc,i h1,h2⟩⟩;have e0:uF P w K mg (kU c.heap H) abD [] c H:=⟨ρ,hM,λb o e=>Ki e,acS<|(λh H=>W.hideAll_size _ _) _ _,trivial,λb f=>absurd (show b∈([]:List dn) from f) (by simp),ak,.of_eq X⟩;refine Zo ((F _ y<|i t).run abD [] c H ⟨[.ref a],[]⟩ [.ref a] [.ref a] _ _ Y e0 (p c<|.ref a) (.cons ρ .nil) (O H S Z)) λr s' h=>?_;cases r with
  | error e=>exact (Q H e s' h).elim
  | ok fl =>
   cases fl with
   | next=>exact Xt h
   | brk=>exact Xt h
   | cont=>exact Xt h
   | ret u =>
    obtain⟨v,H',os,bare,un,G,r',q⟩:=h;have q':=q;subst q';obtain rfl:u=Sq true:=r';refine⟨ρ,OldK.of_keep λb o e=>?_,os,bare⟩;cases q:H b with
    | none=>exact un.keep b o e q (by intro z;exact absurd (show b∈([]:List dn) from z) ⋯) ⋯
    | some u =>
     rcases S b with z|⟨ob,xs,z⟩
     ·rw[q] at z;contradiction
     obtain⟨U,_⟩:=ak b _ z;obtain⟨e2,_⟩:=G b _<|un.iP b ob _ z;rw[e] at U;obtain rfl:=sO U;exact e2
 cases I:K.lookup a with
 | some o=>have e:=L a o I;rw[C] at e;obtain rfl:=sO e;refine l (λ_=>am) (λ_=>ι ρ) (τ ⟨_,vs.toArray,_,I,ρ,ρ,ρ,by rw[gs,D];exact hl,by simpa using R⟩) (λb u z=>by simp_all) (λb z=>absurd ρ z) λz=>absurd ρ z
 | none =>
  refine l (λb=>if b=a then al (.aV {cls:=.type "list",data:=.seq vs.toArray} (.L<|j.map V.int)) else am) (λb=>?_) (ι<|τ ⟨{cls:=.type "list",data:=.seq vs.toArray},if_pos ρ⟩) (λb u z=>?_) (λb z=>?_) λ_=>I
  ·by_cases f:b=a
   ·exact τ ⟨_,_,if_pos f⟩
   exact ι<|if_neg f
  ·by_cases f:b=a
   ·obtain rfl:=sO<|(if_pos f).symm.trans z;subst f;exact⟨C,by rw[bt];exact hl,vs,_,R,C⟩
   simp_all
  by_cases f:b=a
  ·exact f
  cases z (if_neg f)
noncomputable def oj(s:Xs):Arguments:=match s with
 | .FunctionDef _ a _ _ _ _ _ _ _ _=>a
 | _=>{posonlyargs:=[],args:=[],vararg:=am,kwonlyargs:=[],kw_defaults:=[],kwarg:=am,defaults:=[]}
noncomputable def fN(s:Xs):List Stmt:=match s with
 | .FunctionDef _ _ b _ _ _ _ _ _ _=>b
 | _=>[]
noncomputable def aP(s:Xs):Scope:=match s with
 | .FunctionDef _ _ _ _ _ _ a _ _ _=>a
 | _=>{kind:=.function,names:=[],isGenerator:=false,isCoroutine:=false}
abbrev bj:jP:=λ_ _ _ _ _ _=>False
abbrev E0:XK:=λ_ _ _=>False
structure bz (K:ft) (x qual:e6) (st:Xs) (f:dn) (fd:kq):Prop where
 ex:∃(oc:cA) (od:Option dn) (kV doc pm:cA) (an:Option dn) (cdv ct:cA) (osl:Array (Option cA)),
  fd=aas x qual (oj st) (fN st) (aP st) .none kV doc pm an cdv ct/\K.lookup f=al ⟨oc,od,.func fd,osl⟩/\acN K cdv qual=bi
 kp:aad K (.ref f)=bi
section
variable{P:kH}{w:pe}{K:ft}{mg:e6->Option cA}{base:ph}{X:Cx}{Ar:qp}{pins:List (dn×Th)}{σ:St}{H:Hp}{s:ey}{NB:List e6}{scope:Xp}{s₂:ey}{E:cA->ey->Prop}
def bz.ok{x a:e6}{st:Xs}{f:dn}{d:kq}{N c:List e6}{k:Nat}{sp:Sp}(F:bz K x a st f d)(S:bK N c (aP st))(len:∀vs H Q E,sp vs H Q E->vs.length=c.length)
 (b:∀(cdv:cA) (A:qp) (outer:List ZO) (s:ey) (H:Hp) (vs:List V) (Q:VK) (E:XK),bY k (A.deeper<|Xc a (aP st) s.heap.objs.size f cdv)->sp vs H Q E ->
   ∃t,dF (iE bj P w K mg base N a (aP st) f cdv A outer s H E).jA (fN st) t/\t {nx:=λ_ H'=>Q .aU H',rt:=Q} (start N vs) H):br P w K mg base bj (k+1) f d c sp:=by
 obtain⟨oc,od,kV,doc,pm,an,cdv,ct,osl,rfl,lk,e⟩:=F.ex;refine Ly lk e S len λA outer s H vs Q E i g=>?_;obtain⟨t,h,q⟩:=b cdv A outer s H vs Q E i g;exact⟨t,h.jA,q⟩
def bz.binds{x a:e6}{st:Xs}{f:dn}{e:kq}{c:List e6}(F:bz K x a st f e)
 (h:∀(kV b pm:cA) (d:Option dn) (cdv ct:cA) (us:List cA),us.length=c.length->ab1 (aas x a (oj st) (fN st) (aP st) .none kV b pm d cdv ct) ⟨us,[]⟩=pure (c.zip us)):Binds K e c []:=by
 obtain⟨oc,od,kV,b,pm,d,cdv,ct,osl,rfl,lk,hcd⟩:=F.ex;exact .all<|h kV b pm d cdv ct
def SI{x a:e6}{st:Xs}{f:dn}{g:cA}{h e:Option dn}{d:Array (Option cA)}{kV b pm cdv ct:cA}(l:K.lookup f=al ⟨g,h,.func<|aas x a (oj st) (fN st) (aP st) .none kV b pm e cdv ct,d⟩)
 (c:acN K cdv a=bi)(k:aad K (.ref f)=bi):bz K x a st f (aas x a (oj st) (fN st) (aP st) .none kV b pm e cdv ct):=⟨⟨g,h,kV,b,pm,e,cdv,ct,d,ρ,l,c⟩,k⟩
theorem pv(i:Nat){x:e6}{pos:H9}(b:X.N[i]?=al x:=by rfl)(c:cj X.env.scope x:=by first|exact Ye ρ|exact X3 (Ye ρ)|exact X3<|X3 ρ)(hd:bD x:=by decide)
 (a:cH x:=by decide):PE X (.Name x pos) (ff i):=fh b c hd a
def ag(H H':Hp):Prop:=∀b o,H b=al o->H' b=al o
def ag.refl(H):ag H H:=λ_ _ h=>h
def ag.trans (a:ag H d)(b:ag d e):ag H e:=λc o h=>b c o<|a c o h
noncomputable abbrev C7(ifs:List hH)(env:ZO):Sem Bool:=forIn ifs true λt ok =>
 if ok=bi then (abB t env<|eval t env) >>= λb=>pure (.yield b)
 else pure (.yield ok)
abbrev oI:cA->ey->Prop:=λ_ _=>False
theorem RK (W:Nat->ey->Prop)(turn:∀n c,W n c->hX (k5 P w) Ar (Zn b) (λd g=>match d with
   | none=>k (.ok .next) g
   | some u=>hX (k5 P w) Ar (Zt e b u)
     (λ_ o=>hX (k5 P w) Ar (Ya e env u)
      (λ_ p=>hX (k5 P w) Ar (C7 ifs env)
       (λok h=>if ok=bi then hX (k5 P w) Ar (eval elt env)
         (λy q=>hX (k5 P w) Ar (call (.builtin "list.append") [a,y]) (λ_ r=>∃m,m<n/\W m r) oI q) oI h
        else ∃m,m<n/\W m h) oI p) oI o) oI g) oI c)(t:Nat)(B:W t l):Zp (k5 P w) Ar (.compLoop (.ListComp elt [⟨e,f,ifs,0⟩] i j) 0 b a env) k l:=by
 refine codeAny_loop ρ W (λn c hw=>?_) t B;apply wpAny_noted;rw[compTurn_list];refine cW<|ZZ<|cW (W7 (turn n c hw) (λd g v=>?_) λ_ _ z=>z.elim);cases d with
 | none=>exact fm v
 | some u =>
  refine cW (W7 v (λ_ o C=>?_) λ_ _ z=>z.elim);refine cW (W7 C (λ_ p D=>?_) λ_ _ z=>z.elim);refine cW (W7 D (λok h A=>?_) λ_ _ z=>z.elim);cases ok with
  | false=>exact fm (ady ρ A)
  | true=>refine cW<|cW (W7 A (λy q F=>?_) λ_ _ z=>z.elim);refine cW (W7 F (λ_ r G=>?_) λ_ _ z=>z.elim);exact fm<|fm<|ady ρ G
theorem xf(env):∀(names:List (e6×ZK)) (cs:List (e6×dn)),(∀y∈names,y.2=.free->∃c,env.cells.lookup y.1=al c) ->
  (∀x c,cs.lookup x=al c->env.cells.lookup x=al c) ->
  ∃d:List (e6×dn),(forIn names cs (λ(x:e6×ZK) (r:List (e6×dn))=>if (x.2==YB)=bi then (do let a <-cellOf env x.1;pure (aba ((x.1,a)::r))) else pure (aba r)):Sem (List<|e6×dn))=pure d /\
   (∀x c,d.lookup x=al c->env.cells.lookup x=al c)/\(∀x,(cs.lookup x).isSome=bi->(d.lookup x).isSome=bi)/\∀y∈names,y.2=.free->(d.lookup y.1).isSome=bi
 | [],cs,_,g=>⟨cs,⋯,g,λ_ h=>h,λ_ h=>by simp at h⟩
 | (n,k)::r,cs,m,g=>by
  have o:∀y∈r,y.2=.free->∃c,env.cells.lookup y.1=al c:=λy b=>m y<|eR _ b;by_cases t:k=.free
  ·subst t;obtain⟨c,u⟩:=m (n,.free) fk ρ;have p:∀x c',((n,c)::cs).lookup x=al c'->env.cells.lookup x=al c':=by grind
   obtain⟨d,q,i,e,j⟩:=xf env r ((n,c)::cs) o p;refine⟨d,?_,i,λx hx=>e x ?_,λy b l=>?_⟩
   ·rw[aaj];have f:cellOf env n=pure c:=by unfold cellOf;rw[u]
    simp only[if_true,f,pure_bind];exact q
   ·rw[Xk];cases x==n<;>simp[hx]
   rcases eS.1 b with rfl|b
   ·exact e _ (by simp[Xk])
   exact j y b l
  obtain⟨d,q,i,e,j⟩:=xf env r cs o g;refine⟨d,?_,i,e,λy b l=>?_⟩;simp_all;rcases eS.1 b with rfl|b;simp_all;exact j y b l
def Ez (h:∀y∈scope.names,y.2=.free->∃c,env.cells.lookup y.1=al c) :
  ∃a,closureFor scope env=pure a/\(∀x c,a.lookup x=al c->env.cells.lookup x=al c)/\∀y∈scope.names,y.2=.free->(a.lookup y.1).isSome=bi:=by
 obtain⟨a,b,d,_,f⟩:=xf env scope.names [] h<|λ_ _ e=>by simp at e
 refine⟨a,?_,d,f⟩;dsimp only[closureFor];simp only[<-b];simp only[bind_pure]
theorem sg [BEq a][LawfulBEq a]:∀{l:List (a×b)}{x:a}{k:b},l.lookup x=al k->(x,k)∈l
 | [],_,_,h=>by simp at h
 | (n,k')::r,x,k,h=>by
  rw[Xk] at h;cases hx:x==n with
  | true=>simp_all
  | false=>rw[hx] at h;exact eR _<|sg h
theorem xU(env:ZO):∀(names:List (e6×ZK)) (x:e6),
  (names.map λ(n,k)=>if (k==YB&&env.scope.kind==.function&&env.kindOf n==some .cell) then (n,abH) else (n,k)).lookup x =
   (names.lookup x).map λk=>if (k==YB&&env.scope.kind==.function&&env.kindOf x==some .cell) then abH else k
 | [],_=>rfl
 | (n,k)::r,x=>by
  rw[iW];cases hx:x==n with
  | true =>
   have e:x=n:=by simpa using hx
   subst e;by_cases a:(k==YB&&env.scope.kind==.function&&env.kindOf x==some .cell)=bi
   ·simp only[a,if_true,Xk,beq_self_eq_true,Rr]
   simp only[a,if_false,Xk,beq_self_eq_true,Rr,yv]
  | false =>
   have b:=xU env r x;by_cases a:(k==YB&&env.scope.kind==.function&&env.kindOf n==some .cell)=bi
   ·simp only[a,if_true,Xk,hx];exact b
   simp only[a,if_false,Xk,hx,yv];exact b
def Ku (h:scope.names.lookup x=some .free):(aap scope env).names.lookup x=some .cell\/(aap scope env).names.lookup x=some .free:=by
 delta aap;simp only[xU,h];simp only[Rr];split
 ·exact ι ρ
 exact τ ρ
theorem PU (a:∀y∈scope.names,y.2≠.cell)(h:(aap scope env).names.lookup x=some .cell\/(aap scope env).names.lookup x=some .free):scope.names.lookup x=some .free:=by
 unfold aap at h;rw[xU] at h;cases e:scope.names.lookup x with
 | none=>simp_all
 | some k=>have hm:=a _<|sg e;grind
def bT(X:Cx)(NB:List e6)(scope:Xp)(b:List (e6×dn))(C:dn)(a:ey)(H:Hp)(c:List dn):Cx :=
 {X with N:=NB,eG:=a,ki:=H,env:=compEnvC scope b C X.env,outer:=X.stack,ex:=c,fn:=λ_=>false,pn:=[],xe:=λ_ _=>False}
noncomputable def eM(caps:List (Option Nat))(σ:St):St:=caps.map λo=>o.bind λj=>(σ[j]?).join
noncomputable def gA(N NB:List e6)(a:Xp)(caps:List (Option Nat)):Bool :=
 caps.length==NB.length&&(hB caps.length).all λi=>match caps[i]? with
  | some (al j)=>(match NB[i]?,N[j]? with|some x,al y=>x==y&&a.names.lookup x==some .free|_,_=>false)
  | _=>true
def Ru (h:gA N NB a caps=bi):(eM caps σ).length=NB.length:=by delta gA at h;rw[gj] at h;simp[eM];simpa using h.1
theorem Tp{N NB:List e6}{b:Xp}{σ:St}{caps:List (Option Nat)}{i:Nat}{x:e6}{v:V}(h:gA N NB b caps=bi)(f:NB[i]?=al x)(a:(eM caps σ)[i]?=al (al v)) :
  b.names.lookup x=some .free/\∃j:Nat,N[j]?=al x/\σ[j]?=al (al v)/\caps[i]?=al (al j):=by
 unfold gA at h;rw[gj] at h;unfold eM at a;rw[c6] at a;cases e:caps[i]? with
 | none=>rw[e] at a;exact nO a
 | some o =>
  rw[e] at a;cases o with
  | none=>cases a
  | some j =>
   have c:=(cm.1 e).1;have q:=mA.1 h.2 i<|tm.2 c;rw[e] at q;dsimp only at q;rw[f] at q;cases d:N[j]? with
   | none=>simp_all
   | some y =>
    rw[d] at q;simp only[gj] at q;have g:x=y:=by simpa using q.1
    subst g;refine⟨by simpa using q.2,j,d,?_,rfl⟩;simp at a;cases k:σ[j]? with
    | none=>rw[k] at a;exact nO a
    | some z=>simp_all
structure iX (sc:Xp) (scope:Xp):Prop where
 kind:scope.kind=.function
 F6:∀y∈scope.names,y.2≠.cell
 loc:∀y∈scope.names,y.2=.local->scope.names.lookup y.1=some .local
 free:∀y∈scope.names,y.2=.free->sc.names.lookup y.1=some .cell\/sc.names.lookup y.1=some .free
def Oe (I:Inv X pins σ H s)(S:iX X.env.scope scope)(f:gA X.N NB scope caps=bi)(a:∀x c,B.lookup x=al c->X.env.cells.lookup x=al c)(t:∀y∈scope.names,y.2=.free->(B.lookup y.1).isSome=bi)(Q:d.Ns s.heap.objs.size λ_=>am)(keep:∀b o,s.heap.get? b=al o->d.get? b=al o)(g:∀b∈O,jS X pins H b/\b<s.heap.objs.size) :
  Inv (bT X NB scope B s.heap.objs.size s H O) [] (eM caps σ) H {s with heap:=d,toks:=tk}:=by
 have hC:X.env.locals<s.heap.objs.size:=I.lt;refine⟨⟨I.ok.mod,?_,I.ok.glob,I.ok.blt,fj _,λx y c C D=>?_,λx hx=>?_,λx c h=>?_,I.ok.hd,I.ok.frames,ι ρ,λb n=>?_,λb o e=>?_,ia I.ok.mf I.sz,λb o e n=>?_,λb n V=>?_,I.stack,I.HC⟩,
  ρ,I.bare,Un.kept keep,⟨_,Q,λi x v C D h3=>?_⟩,λx c h=>?_,I.ak.fresh<|fj _,λx c h=>?_,λp W=>absurd (show p∈([]:List (dn×Th)) from W) ⋯,I.ak.kept keep,Ru f⟩
 ·exact S.kind
 ·exact I.ok.inj x y c (a x c C)<|a y c D
 ·have q:=PU S.F6 hx;exact YK.1<|t _ (sg q) ρ
 ·exact absurd h (by show ¬(false=bi);simp)
 ·obtain⟨⟨R,F,G,J,L,T⟩,lt⟩:=g b n;exact⟨hQ lt,λx c e=>L x c<|a x c e⟩
 ·exact I.bs b o e
 ·obtain⟨⟨R,F,G,J,L,T⟩,lt⟩:=g b n;rcases J with z|z
  ·exact I.ok.tG b o e z
  exact absurd (l4 (l4 (gg e) I.ok.mf) z)<|z9 _
 ·obtain⟨⟨R,F,G,J,L,T⟩,lt⟩:=g b n;rcases eS.1 (I.vB b V) with z|z
  ·exact F z
  exact G z
 ·obtain⟨q,j,Y,Z,_⟩:=Tp f C D;obtain⟨m,hn,hl⟩:=I.loc;have hk:=S.free _ (sg q) ρ;have hv:cj X.env.scope x:=τ hk;obtain⟨u,r,l⟩:=hl j x v Y Z hv;refine⟨u,r,τ ⟨Ku q,?_⟩⟩;obtain⟨c,U⟩:=YK.1<|t _ (sg q) ρ;refine⟨c,U,?_⟩;rcases l with⟨k,_⟩|⟨_,c',A,z⟩
  ·have k:X.env.scope.names.lookup x=some .local:=k;simp_all
  rw[a x c U] at A;obtain rfl:=sO A;obtain⟨o,M,hd⟩:=z;exact⟨o,keep c o M,hd⟩
 ·obtain⟨v,o,M,hd⟩:=I.cell x c<|a x c h;exact⟨v,o,keep c o M,hd⟩
 exact I.hJ x c<|a x c h
def PF(X:Cx)(ifs:List hH)(t:TT):Prop :=
 ∀(pins:List (dn×Th)) (s:ey) (σ:St) (H:Hp) (Q:Bool->Hp->Prop),Inv X pins σ H s->t σ H Q ->
  hX (k5 X.prog X.w) X.A (C7 ifs X.env) (TP X pins σ Q) X.xe s
def A5:TT:=λ_ H Q=>Q true H
def C6:PF X [] A5:=λ_ _ _ H _ I h=>wpAny_tests_nil ⟨H,I,h⟩
def OV (h:PT X c t):PF X [c] t:=λpins s σ H Q I a=>wpAny_tests_one<|h pins s σ H Q I a
def sx(caps:St->St)(j:TI)(g:TG)(tc:TT)(te:TE):TE:=fun σ H Q=>j σ H λJ e=>∀D,e D=am->∃W:Nat->Nat->St->Hp->Prop,
 (∃m,W 0 m (caps σ)<|upd e D<|.L [])/\∀i m σ' H',W i m σ' H' ->
  (J.stop i H'/\Q (.ref D) H')\/(J.go i H'/\∀x d,J.mE i H' x d->g x σ' d λa k=>tc a k λb f =>
   if b=bi then te a f λy h=>∃ys,h D=al (.L ys)/\ys.length<dk/\∃c,c<m/\W (i+1) c a (upd h D<|.L<|ys++[y])
   else ∃c,c<m/\W (i+1) c a f)
theorem Di{caps:List (Option Nat)}{elt iter tg:hH}{ifs:List hH}{pos:H9}{it:dn}{f:List dn}{U:Nat->ph->Prop}{J:It}{j:Hp}{g:TG}{tc:TT}{te:TE}{k:List (e6×dn)}{Q:VK}{RR:cA->dn->abF->ey->Prop}
 (I2:Inv X pins σ j s₂)(T:Turn X.prog X.w X.K tg J f it U)(UM:U 0 s₂.heap)(f2:∀b∈f,jS X pins j b)(hc:X.calm=bi)(S:iX X.env.scope scope)(UX:gA X.N NB scope caps=bi)
 (UN:∀x c,k.lookup x=al c->X.env.cells.lookup x=al c)(U8:∀y∈scope.names,y.2=.free->(k.lookup y.1).isSome=bi)
 (h:∀(k:List (e6×dn)) (C:dn) (a:ey) (H:Hp) (f:List dn),PG (bT X NB scope k C a H f) tg g/\PF (bT X NB scope k C a H f) ifs tc/\PE (bT X NB scope k C a H f) elt te)
 (hW:∀D,j D=am->∃W:Nat->Nat->St->Hp->Prop,(∃m,W 0 m (eM caps σ)<|upd j D<|.L [])/\∀i m σ' H',W i m σ' H' ->
   (J.stop i H'/\Q (.ref D) H')\/(J.go i H'/\∀x UO,J.mE i H' x UO->g x σ' UO λM j=>tc M j λb H3 =>
    if b=bi then te M H3 λy H4=>∃ys,H4 D=al (.L ys)/\ys.length<dk/\∃F,F<m/\W (i+1) F M (upd H4 D<|.L<|ys++[y])
    else ∃F,F<m/\W (i+1) F M H3))
 (Va:∀D C H' s' m,Inv X pins σ H' s'->s'.heap.Ns C m->jS X pins H' C->Q (.ref D) H'->RR (.ref D) C (.ok .next) s') :
  hX (k5 X.prog X.w) X.A (newList []) (λUP a=>hX (k5 X.prog X.w) X.A (newFunctionEnv scope X.env.globals k [] X.env.qual none .none<|al X.env) (λbe I =>
   Zp (k5 X.prog X.w) X.A (.compStart (.ListComp elt [⟨tg,iter,ifs,0⟩] scope pos) 0 (.ref it) UP {be with scope:=aap scope X.env}) (RR UP be.locals) I) E a) E s₂:=by
 refine WV<|wpAny_newFunctionEnv S.F6 (by intro y hy;simp at hy) (λl t B=>?_) S.kind;have I3:Inv X pins σ (upd j s₂.heap.objs.size<|.L []) {s₂ with heap:=s₂.heap.push {cls:=.type "list",data:=.seq ([]:List cA).toArray},toks:=s₂.toks} :=
  I2.wD .nil (pd _)
 obtain⟨W,⟨m0,w0⟩,hW⟩:=hW s₂.heap.objs.size I2.fresh;generalize UB:({s₂ with heap:=s₂.heap.push {cls:=.type "list",data:=.seq ([]:List cA).toArray},toks:=s₂.toks}:ey)=a at I3;have UC:=congrArg (·.heap) UB;have et3:=congrArg (·.toks) UB;have hsz:s₂.heap.objs.size<a.heap.objs.size:=by rw[<-UC,Zj];exact Y0 _
 (try rw[UC] at t B)
 have keep:∀b o,a.heap.get? b=al o->l.get? b=al o:=λb o e=>B.extBut b o (hQ<|gg e)<|e7 _ e;have Vb:∀b o,s₂.heap.get? b=al o->a.heap.get? b=al o:=λb o e=>by rw[<-UC];exact e7 _ e
 have O:∀b∈f,jS X pins (upd j s₂.heap.objs.size<|.L []) b/\b<a.heap.objs.size:=λb h=>by obtain⟨o,e,_⟩:=T.obj _ _ UM b h;have lt:=gg e;exact⟨⟨by rw[ax (hQ lt)];exact (f2 b h).1,(f2 b h).2⟩,Zc lt hsz⟩
 have Vc:=T.keep _ _ _ UM λb _ o e=>keep b o<|Vb b o e;have Vd:=t;have IB:Inv (bT X NB scope k a.heap.objs.size a (upd j s₂.heap.objs.size<|.L []) f) [] (eM caps σ) (upd j s₂.heap.objs.size<|.L []) {a with heap:=l,toks:=a.toks+([]:List (e6×cA)).length} :=
  Oe I3 S UX UN U8 Vd keep O
 have sS:U 0 ({a with heap:=l,toks:=a.toks+([]:List (e6×cA)).length}:ey).heap:=Vc;generalize ({a with heap:=l,toks:=a.toks+([]:List (e6×cA)).length}:ey)=I at IB sS ⊢;have UD:∀{H':Hp},(∀b∈f,H' b=am)->∀b∈f,jS (bT X NB scope k a.heap.objs.size a (upd j s₂.heap.objs.size<|.L []) f) [] H' b:=λhn b h=>by
  obtain⟨⟨f0,f1,UQ,f3,f4,f5⟩,lt⟩:=O b h;refine⟨hn b h,hQ lt,λhm=>?_,ι h,λx c e=>f4 x c<|UN x c e,λp hp=>absurd (show p∈([]:List (dn×Th)) from hp) ⋯⟩;rcases eS.1 (I2.vB b hm) with z|z
  ·exact f1 z
  exact UQ z
 obtain⟨bG,bF,bE⟩:=h k a.heap.objs.size a (upd j s₂.heap.objs.size<|.L []) f;have UG:Zp (k5 X.prog X.w) X.A (.compLoop (.ListComp elt [⟨tg,iter,ifs,0⟩] scope pos) 0 (.ref it) (.ref s₂.heap.objs.size)<|compEnvC scope k a.heap.objs.size X.env) (RR (.ref s₂.heap.objs.size) a.heap.objs.size) I:=by
  refine RK (λn s'=>∃i σ' H',Inv (bT X NB scope k a.heap.objs.size a (upd j s₂.heap.objs.size<|.L []) f) [] σ' H' s'/\U i s'.heap/\(∀b∈f,H' b=am)/\W i n σ' H') ?_ m0
   ⟨0,_,_,IB,sS,λb h=>(O b h).1.1,w0⟩
  rintro n s5 ⟨i,R,H5,I5,UR,US,w5⟩;rcases hW i n R H5 w5 with⟨stop,q⟩|⟨go,step⟩
  ·refine aD (T.done (bT X NB scope k a.heap.objs.size a (upd j s₂.heap.objs.size<|.L []) f) ρ ρ ρ hc i [] s5 R H5 (λ_ _=>False) I5 (UD US) UR stop) λr s6 h=>?_;obtain⟨hr,V⟩:=h;subst hr;obtain⟨m,hn,_⟩:=V.loc;refine Va _ _ H5 s6 m ?_ hn (I3.mm (fj _) V.free) q;refine I3.JV V.os V.base V.ak V.bare λb h=>?_;obtain⟨⟨f0,f1,UQ,f3,f4,f5⟩,lt⟩:=O b h;exact⟨f3,f1,f4,f5⟩
  refine aD (T.item (bT X NB scope k a.heap.objs.size a (upd j s₂.heap.objs.size<|.L []) f) ρ ρ ρ hc i [] s5 R H5 (λ_ _=>False) I5 (UD US) UR go) λr s6 h=>?_;obtain⟨u,hr,h6⟩:=h;subst hr;refine aD h6 λ_ s7 h=>?_;obtain⟨x,H7,I7,r7,y7,UH,Vm⟩:=h;have Vn:=I7.pinned (UD Vm)<|T.obj _ _ UH;have back:∀{UI:St}{L:Hp}{Y:ey},Inv (bT X NB scope k a.heap.objs.size a (upd j s₂.heap.objs.size<|.L []) f) ([]++rS f s7.heap) UI L Y ->
    Inv (bT X NB scope k a.heap.objs.size a (upd j s₂.heap.objs.size<|.L []) f) [] UI L Y/\U (i+1) Y.heap/\∀b∈f,L b=am:=λ{UI L Y} Z=>by
   refine⟨Z.vj,T.keep _ _ _ UH λb h o e=>(Z.pin (b,o)<|p8 _<|p8 _<|tV h e).1,λb h=>?_⟩;obtain⟨o,e,d⟩:=T.obj _ _ UH b h;exact (Z.pin (b,o)<|p8 _<|p8 _<|tV h e).2.1
  refine aD (bG _ s7 R H7 x u _ Vn r7<|step x H7 y7) λ_ s8 h=>?_;obtain⟨G,H8,I8,q8⟩:=h;refine aD (bF _ s8 G H8 _ I8 q8) λok Y h=>?_;obtain⟨L,Z,q9⟩:=h;cases ok with
  | false=>obtain⟨F,hm,w9⟩:=q9;obtain⟨a1,a2,a3⟩:=back Z;exact⟨F,hm,i+1,G,L,a1,a2,a3,w9⟩
  | true=>refine aD (bE _ Y G L _ Z q9) λv Vp h=>?_;obtain⟨y,UT,Vq,Vr,ys,hD,hz,F,hm,Vs⟩:=h;refine aD (vm _ Vp G UT (.ref s₂.heap.objs.size) [y] (.ref s₂.heap.objs.size) [v] (λ_ UU=>UU=upd UT s₂.heap.objs.size (.L<|ys++[y])) Vq ρ (.cons Vr .nil) ⟨_,ys,y,ρ,ρ,hD,hz,ρ⟩) λ_ s11 h=>?_;obtain⟨_,UU,Vt,_,Vu⟩:=h;subst Vu;obtain⟨a1,a2,a3⟩:=back Vt;exact⟨F,hm,i+1,G,_,a1,a2,a3,Vs⟩
 exact codeAny_compStart_list UG<|T.self _ 0 _ _ _ sS UG
end
section
variable{X:Cx}{NB:List e6}{caps:List (Option Nat)}{scope:Xp}{elt iter tg:hH}{ifs:List hH}{pos:H9}{wi:TI}{g:TG}{tc:TT}{te:TE}{P:kH}{w:pe}{H:Hp}{h h':ph}{a:dn}{o:HO}{pins:List (dn×Th)}{σ:St}{s:ey}{K:ft}{H':Hp}{H0:Hp×Hp}{Hi:Hp}{ps:Nat->Option dn}{Z:DS}
def F5(B:X.calm=bi)(S:iX X.env.scope scope)(j:gA X.N NB scope caps=bi)(E:PI X tg iter wi)
 (k:∀(d:List (e6×dn)) (C:dn) (c:ey) (H:Hp) (f:List dn),PG (bT X NB scope d C c H f) tg g/\PF (bT X NB scope d C c H f) ifs tc/\PE (bT X NB scope d C c H f) elt te)
 (F:∀x,ti iter X.env x=pure x:=by intro _;rfl):PE X (.ListComp elt [⟨tg,iter,ifs,0⟩] scope pos) (sx (eM caps) wi g tc te):=by
 intro pins s σ H Q I h;obtain⟨d,i,r,t⟩:=Ez<|λy G l=>I.ok.has y.1<|S.free y G l;refine abd ρ F i S.kind S.loc (aD (E pins s σ H _ I h) λxv s₁ n=>aD n λitv s₂ p=>?_);obtain⟨it,f,tn,J,H2,rfl,L,T,u,M,O⟩:=p;apply Di L T u M B S j r t k O;intro D C H' s' m R U l q;refine⟨m,U,λh' z=>⟨.ref D,H',?_,ρ,q⟩⟩;obtain⟨V,W,f2',Y,f4,f5⟩:=l;exact R.turned (λb o k e=>(z.2 b k).trans e) V W Y f4 f5
def Ax (hN:X.N.Nodup)(F:X.N[i]?=al y)(n:Loc X.env.scope y)(hc:X.calm=bi)(S:iX X.env.scope scope)(p:gA X.N NB scope caps=bi)(hi:PI X tg iter wi)(r:∀(j:List (e6×dn)) (C:dn) (c:ey) (H:Hp) (k:List dn),PG (bT X NB scope j C c H k) tg g/\PF (bT X NB scope j C c H k) ifs tc/\PE (bT X NB scope j C c H k) elt te)(G:Fs (.ListComp elt [⟨tg,iter,ifs,0⟩] scope pos) (al<|.Name y py) d.line X.env=pure true)(hs:∀x,ti iter X.env x=pure x:=by intro _;rfl)(t:X.fn y=bi\/X.env.scope.names.lookup y=some .local:=by first|exact ι ρ|exact τ ρ|assumption) :
  PS X (.Assign [.Name y py] (.ListComp elt [⟨tg,iter,ifs,0⟩] scope pos) d) (nF (sx (eM caps) wi g tc te)<|gV i):=by
 intro pins s σ H D I h;obtain⟨j,l,L,M⟩:=Ez<|λy n t=>I.ok.has y.1<|S.free y n t;rw[exec_Assign_Name_used _ _ _ _ G];refine cW<|ZZ<|cW ?_;show hX _ X.A (do let _ <-comprehension (.ListComp elt [⟨tg,iter,ifs,0⟩] scope pos) scope X.env _ (newList []) false (eval iter X.env) (al<|Ya (.Name y py) X.env)) _ _ s;refine cW (W7 (abd ρ hs l S.kind S.loc (aD (hi pins s σ H _ I h) λxv s₁ u=>aD u λitv s₂ B=>?_)) (λ_ s' hq=>fm<|fm hq) λ_ _ e=>e);obtain⟨it,k,tn,J,H2,rfl,I2,T,O,f2,hW⟩:=B;apply Di (Q:=λx H1=>gV i x σ H1 D.nx) I2 T O f2 hc S p L M r hW;intro U C H' s' m I' hn V q;obtain⟨f0,W,f2',f3,Y,f5⟩:=V;refine acu<|E2 (v:=.ref U) I' hN F n ρ (λbe UB f=>?_) t;obtain⟨a,f,ha⟩:=f;have UC:C≠a:=by
  rintro rfl;rcases ha with z|z
  ·exact W z
  exact Y _ _ z ρ
 refine⟨m,hn.sameBut f UC,λh' E=>?_⟩;exact⟨_,H',UB.turned (λb o r e=>(E.2 b r).trans e) f0 W f3 Y f5,q⟩
theorem cB.alive(x:cB P w H h a o):∃u,h.get? a=al u:=by
 cases o with
 | L xs=>obtain⟨z,its,n,r,e⟩:=x;exact⟨_,e⟩
 | U xs=>obtain⟨z,its,r,b,e,c⟩:=x;exact⟨_,e⟩
 | dK kvs=>obtain⟨z,y,vs,r,b,i,ep,e,c⟩:=x;exact⟨_,e⟩
 | dT kvs=>obtain⟨z,y,xs,r,b,i,ep,e,c⟩:=x;exact⟨_,e⟩
 | set S n=>obtain⟨b,i,ep,t,e,c⟩:=x;exact⟨_,e⟩
 | ins C dx fs=>obtain⟨d,z,ne,e,j,_⟩:=x;exact⟨_,e⟩
 | O y=>exact x
 | xd fs=>obtain⟨j,⟨od,i,ep,e,c⟩,r⟩:=x;exact⟨_,e⟩
 | rj lo hi=>obtain⟨t,u,v,e⟩:=x;exact⟨_,e⟩
 | aV b u=>obtain⟨e,q⟩:=x;exact⟨_,e⟩
 | my ps=>exact⟨_,x⟩
 | met f y=>exact⟨_,x⟩
 | ext φ=>obtain⟨p,e,st⟩:=x;exact e
def bZ.tracked(x:bZ P w H h)(k:∀b u,H b≠am->h.get? b=al u->h'.get? b=al u):bZ P w H h':=λc d e =>
 (x c d e).gp (λb u f q=>k b u (by
  rcases f with z|z
  ·rw[z,e];simp
  rw[z];simp) q) (λ_ q=>q) λ_ _ q=>q
theorem bZ.dead(x:bZ P w H h)(e:h.get? a=am):H a=am:=by
 cases q:H a with
 | none=>rfl
 | some u=>obtain⟨v,z⟩:=(x a u q).alive;rw[e] at z;exact nO z
structure Flt (av:List dn) (H:Hp) (h₀:ph) (a:dn) (cls fl:cA) (h:ph):Prop where
 ex:∃(a0:cA) (T:dn) (oe oT:Th) (vs ts:Array cA),h.get? a=al oe/\oe.cls=cls/\oe.data=.fields vs/\vs[0]?=al a0/\vs[1]?=al (.ref T)/\T≠a/\h.get? T=al oT/\oT.data=.fields ts/\ts[3]?=al fl/\H T=am/\h₀.get? T=am/\T∉av
 na:H a=am
 nw:h₀.get? a=am
 nv:a∉av
abbrev M7(X:Cx)(pins:List (dn×Th)):List Addr:=(X.pn++pins).map (·.1)
def IX(X:Cx)(σ:St)(b:cA)(a:dn)(H:Hp):Prop:=∀(pins:List (dn×Th)) (s:ey),Inv X pins σ H s->Flt (M7 X pins) H X.eG.heap a b .none s.heap->X.xe (.ref a) s
def Pq(X:Cx)(σ:St)(C:dn)(H:Hp):Prop:=∀(pins:List (dn×Th)) (s:ey) (h':ph) (a:dn) (vs:List cA),Inv X pins σ H s->Heap.MadeExcOf s.heap h' a (.ref C) vs->X.xe (.ref a) {s with heap:=h'}
def Nn(a:dn)(cls:cA)(h:ph):Prop:=∃o vs,h.get? a=al o/\o.cls=cls/\o.data=.fields vs
noncomputable def excAt(a:dn)(b:cA):HO:=.ext<|Nn a b
inductive Dat where
 | aU|bl (b:Bool)|int (i:Int)|str (x:e6)
 | U (xs:List Dat)|L (xs:List Dat)|bV (ks:List (e6×Dat))
 | exc (C:dn)
 | ins (C:dn×dn) (fs:List (e6×Dat))
 | cw (ns:List Int)
 | adr (p:dn)
 /-- a dict that is gone through: its object stays as it is -/
 | d9 (ks:List (e6×Dat))
 /-- a dict whose keys are tuples of texts;fz: gone through,its object stays as it is -/
 | aN (fz:Bool) (ks:List (List e6×Dat))
mutual
/-- the value v is the datum d,over the heap H (and the module's own objects) -/
def Rep(K:ft)(H:Hp):Dat->V->Prop
 | .aU,v=>v=.aU
 | .bl b,v=>v=.bl b
 | .int i,v=>v=.int i
 | .str x,v=>v=.str x
 | .U ds,v=>∃p vs,v=.ref p/\aS K H p vs/\aw K H ds vs
 | .L ds,v=>∃p vs,v=.ref p/\Rd H p (.L vs)/\aw K H ds vs
 | .bV c,v=>∃p kvs,v=.ref p/\H p=al (.dK kvs)/\bC K H c kvs
 | .exc C,v=>∃p,v=.ref p/\H p=al (excAt p<|.ref C)
 | .ins C fs,v=>∃p e vs,v=.ref p/\H p=al (.ins C.1 e vs)/\nH K H fs vs/\p=C.2
 | .cw f,v=>∃p,v=.ref p/\bA K H p (f.map V.int)
 | .adr p,v=>v=.ref p
 | .d9 c,v=>∃p o kvs,v=.ref p/\H p=al (.aV o<|.dK kvs)/\bC K H c kvs
 | .aN j c,v=>∃p o kvs,v=.ref p/\H p=al (if j then .aV o (.dT kvs) else .dT kvs)/\bR K H c kvs
def aw(K:ft)(H:Hp):List Dat->List V->Prop
 | [],vs=>vs=[]
 | d::ds,vs=>∃v r,vs=v::r/\Rep K H d v/\aw K H ds r
def bC(K:ft)(H:Hp):List (e6×Dat)->List (Key×V)->Prop
 | [],kvs=>kvs=[]
 | (k,d)::c,kvs=>∃v r,kvs=(uy k,v)::r/\Rep K H d v/\bC K H c r
def bR(K:ft)(H:Hp):List (List e6×Dat)->List (List Key×V)->Prop
 | [],kvs=>kvs=[]
 | (k,d)::c,kvs=>∃v r,kvs=(k.map uy,v)::r/\Rep K H d v/\bR K H c r
def nH(K:ft)(H:Hp):List (e6×Dat)->List (e6×V)->Prop
 | [],kvs=>kvs=[]
 | (k,d)::c,kvs=>∃v r,kvs=(k,v)::r/\Rep K H d v/\nH K H c r
end
def aS.mono (s:ag H H')(h:aS K H p vs):aS K H' p vs:=by
 rcases h with (h|⟨o,h⟩)|h
 ·exact ι<|ι<|s _ _ h
 ·exact ι<|τ ⟨o,s _ _ h⟩
 exact τ h
def bA.mono (s:ag H H')(h:bA K H p vs):bA K H' p vs:=by
 rcases h with (h|⟨o,h⟩)|h
 ·exact ι<|ι<|s _ _ h
 ·exact ι<|τ ⟨o,s _ _ h⟩
 exact τ h
def Rd.mono (s:ag H H')(h:Rd H p u):Rd H' p u:=by
 rcases h with h|⟨o,h⟩
 ·exact ι<|s _ _ h
 exact τ ⟨o,s _ _ h⟩
mutual
theorem Rep.mono(s:ag H H'):∀{d:Dat}{v:V},Rep K H d v->Rep K H' d v
 | .aU,_,h=>h
 | .bl _,_,h=>h
 | .int _,_,h=>h
 | .str _,_,h=>h
 | .U _,_,h=>by obtain⟨p,vs,e,q,r⟩:=h;exact⟨p,vs,e,aS.mono s q,aw.mono s r⟩
 | .L _,_,h=>by obtain⟨p,vs,e,q,r⟩:=h;exact⟨p,vs,e,Rd.mono s q,aw.mono s r⟩
 | .bV _,_,h=>by obtain⟨p,kvs,e,q,r⟩:=h;exact⟨p,kvs,e,s _ _ q,bC.mono s r⟩
 | .exc _,_,h=>by obtain⟨p,e,q⟩:=h;exact⟨p,e,s _ _ q⟩
 | .ins _ _,_,h=>by obtain⟨p,c,vs,e,q,r,z⟩:=h;exact⟨p,c,vs,e,s _ _ q,nH.mono s r,z⟩
 | .cw _,_,h=>by obtain⟨p,e,q⟩:=h;exact⟨p,e,bA.mono s q⟩
 | .adr _,_,h=>h
 | .d9 _,_,h=>by obtain⟨p,o,kvs,e,q,r⟩:=h;exact⟨p,o,kvs,e,s _ _ q,bC.mono s r⟩
 | .aN _ _,_,h=>by obtain⟨p,o,kvs,e,q,r⟩:=h;exact⟨p,o,kvs,e,s _ _ q,bR.mono s r⟩
theorem aw.mono(s:ag H H'):∀{ds:List Dat}{vs:List V},aw K H ds vs->aw K H' ds vs
 | [],_,h=>h
 | _::_,_,h=>by obtain⟨v,r,e,q,t⟩:=h;exact⟨v,r,e,Rep.mono s q,aw.mono s t⟩
theorem bC.mono(s:ag H H'):∀{b:List (e6×Dat)}{kvs:List (Key×V)},bC K H b kvs->bC K H' b kvs
 | [],_,h=>h
 | (_,_)::_,_,h=>by obtain⟨v,r,e,q,t⟩:=h;exact⟨v,r,e,Rep.mono s q,bC.mono s t⟩
theorem bR.mono(s:ag H H'):∀{b:List (List e6×Dat)}{kvs:List (List Key×V)},bR K H b kvs->bR K H' b kvs
 | [],_,h=>h
 | (_,_)::_,_,h=>by obtain⟨v,r,e,q,t⟩:=h;exact⟨v,r,e,Rep.mono s q,bR.mono s t⟩
theorem nH.mono(s:ag H H'):∀{b:List (e6×Dat)}{kvs:List (e6×V)},nH K H b kvs->nH K H' b kvs
 | [],_,h=>h
 | (_,_)::_,_,h=>by obtain⟨v,r,e,q,t⟩:=h;exact⟨v,r,e,Rep.mono s q,nH.mono s t⟩
end
theorem aw.length:∀{ds:List Dat}{vs:List V},aw K H ds vs->vs.length=ds.length
 | [],_,h=>by rw[show _=[] from h];rfl
 | _::_,_,⟨v,r,e,q,t⟩=>by rw[e,gi,gi,aw.length t]
theorem aw.append:∀{ds b:List Dat}{vs c:List V},aw K H ds vs->aw K H b c->aw K H (ds++b) (vs++c)
 | [],_,_,_,h,h'=>by rw[show _=[] from h];exact h'
 | _::_,_,_,_,⟨v,r,e,q,t⟩,h'=>⟨v,r++_,by rw[e];rfl,q,aw.append t h'⟩
theorem aw.get{ds:List Dat}{vs:List V}{i:Nat}{d:Dat}(h:aw K H ds vs)(e:ds[i]?=al d):∃v,vs[i]?=al v/\Rep K H d v:=by
 induction ds generalizing vs i with
 | nil=>simp at e
 | cons _ _ b =>
  obtain⟨v,r,rfl,q,t⟩:=h;cases i with
  | zero=>simp at e;subst e;exact⟨v,ρ,q⟩
  | succ i=>exact b (vs:=r) (i:=i) t (by simpa using e)
theorem aw.set{ds:List Dat}{vs:List V}{d:Dat}{v:V}(i:Nat)(h:aw K H ds vs)(q:Rep K H d v):aw K H (ds.set i d) (vs.set i v):=by
 induction ds generalizing vs i with
 | nil=>rw[show vs=[] from h];exact ρ
 | cons _ _ b =>
  obtain⟨v,r,rfl,p,t⟩:=h;cases i with
  | zero=>exact⟨_,r,ρ,q,t⟩
  | succ i=>exact⟨v,_,ρ,p,b i t⟩
inductive Slot where
 /-- nothing,data,a list or dict that this frame owns (its content),one that the caller owns and lends -/
 | no|D (d:Dat)|O (d:Dat)|io (d:Dat)
abbrev DS:=List Slot
inductive Res where
 | D (d:Dat)|O (d:Dat)
noncomputable def Res.val:Res->Dat
 | .D d=>d
 | .O d=>d
def cx(K:ft)(H Hi:Hp)(p:dn):Dat->Prop
 | .L ds=>∃vs,H p=al (.L vs)/\aw K Hi ds vs/\Hi p=am
 | .bV b=>∃kvs,H p=al (.dK kvs)/\bC K Hi b kvs/\Hi p=am
 | .aN c b=>c=bn/\∃kvs,H p=al (.dT kvs)/\bR K Hi b kvs/\Hi p=am
 | _=>False
def jD(Hi H:Hp)(p:dn)(o:HO):Prop:=Hi p=al o\/H p=am\/∃vs,o=.U vs
def gx(ps:Nat->Option dn)(p:dn):Prop:=∃i,ps i=al p
structure SR (K:ft) (H0:Hp×Hp) (ps:Nat->Option dn) (Z:DS) (σ:St) (H Hi:Hp):Prop where
 sub:ag Hi H
 keep:∀b o,H0.1 b=al o->¬gx ps b->H b=al o
 dB:∀p,gx ps p->H p≠am
 D:∀(i:Nat) (d:Dat),Z[i]?=al (.D d)->∃v,σ[i]?=al (al v)/\Rep K Hi d v
 O:∀(i:Nat) (c:Dat),Z[i]?=al (.O c)->∃p,σ[i]?=al (al<|.ref p)/\cx K H Hi p c/\¬gx ps p/\H0.1 p=am
 io:∀(i:Nat) (c:Dat),Z[i]?=al (.io c)->∃p,σ[i]?=al (al<|.ref p)/\cx K H Hi p c/\ps i=al p
 ne:∀(i j:Nat) (c c':Dat) (p:dn),(Z[i]?=al (.O c)\/Z[i]?=al (.io c))->(Z[j]?=al (.O c')\/Z[j]?=al (.io c'))->σ[i]?=al (al<|.ref p)->σ[j]?=al (al<|.ref p)->i=j
 len:Z.length=σ.length
 nw:∀p o,Hi p=al o->jD H0.2 H0.1 p o
def RR(K:ft)(H0:Hp×Hp)(ps:Nat->Option dn)(Z:DS)(σ:St)(H Hi:Hp)(v:V):Res->Prop
 | .D d=>Rep K Hi d v
 | .O c=>∃p,v=.ref p/\cx K H Hi p c/\¬gx ps p/\H0.1 p=am/\∀(i:Nat) (c':Dat),(Z[i]?=al (.O c')\/Z[i]?=al (.io c'))->σ[i]?≠al (al<|.ref p)
theorem cx.some (h:cx K H Hi p c):(∃o,H p=al o)/\Hi p=am:=by
 cases c with
 | L ds=>obtain⟨vs,e,_,n⟩:=h;exact⟨⟨_,e⟩,n⟩
 | bV b=>obtain⟨vs,e,_,n⟩:=h;exact⟨⟨_,e⟩,n⟩
 | aN fz b=>obtain⟨_,vs,e,_,n⟩:=h;exact⟨⟨_,e⟩,n⟩
 | _=>exact h.elim
theorem cx.nt (h:cx K H Hi p c)(e:H p=Option.some (.U vs)):False:=by
 cases c with
 | L ds=>obtain⟨vs,q,_⟩:=h;simp_all
 | bV b=>obtain⟨vs,q,_⟩:=h;simp_all
 | aN fz b=>obtain⟨_,vs,q,_⟩:=h;simp_all
 | _=>exact h.elim
theorem cx.keeps (h:cx K H Hi p c)(e:H' p=H p)(s:ag Hi b)(n:b p=am):cx K H' b p c:=by
 cases c with
 | L ds=>obtain⟨vs,q,r,_⟩:=h;exact⟨vs,e.trans q,aw.mono s r,n⟩
 | bV d=>obtain⟨vs,q,r,_⟩:=h;exact⟨vs,e.trans q,bC.mono s r,n⟩
 | aN fz d=>obtain⟨z,vs,q,r,_⟩:=h;exact⟨z,vs,e.trans q,bR.mono s r,n⟩
 | _=>exact h.elim
def jU (h:H p=am):ag H (upd H p o):=λb u e=>by rwa[ax (dq e h)]
def yh (s:ag Hi H):ag (upd Hi p o) (upd H p o):=λb u e=>by
 by_cases c:b=p
 ·subst c;rw[aT] at e ⊢;exact e
 rw[ax c] at e ⊢;exact s b u e
def EA (s:ag Hi H)(h:H p=al o):ag (upd Hi p o) H:=λb u e=>by
 by_cases c:b=p
 ·subst c;rw[aT] at e;exact h.trans e
 rw[ax c] at e;exact s b u e
def vV (s:ag Hi H)(h:Hi p=am):ag Hi (upd H p o):=λb u e=>by rw[ax (dq e h)];exact s b u e
theorem SR.cX(S:SR K H0 ps Z σ H Hi)(h:H p=am):Hi p=am:=by
 cases e:Hi p with
 | none=>rfl
 | some o=>rw[S.sub _ _ e] at h;contradiction
theorem SR.bB(S:SR K H0 ps Z σ H Hi)(h:H p=am):H0.1 p=am/\¬gx ps p:=by
 have b:¬gx ps p:=λm=>S.dB p m h;refine⟨?_,b⟩;cases e:H0.1 p with
 | none=>rfl
 | some o=>rw[S.keep _ _ e b] at h;contradiction
def SR.laid(S:SR K H0 ps Z σ H Hi)(h:H p=am):SR K H0 ps Z σ (upd H p o) (upd Hi p o)/\ag Hi (upd Hi p o):=by
 have sm:ag Hi (upd Hi p o):=jU<|S.cX h;have ne:∀{q:dn}{c:Dat},cx K H Hi q c->q≠p:=λf=>dq f.some.1.choose_spec h;refine⟨⟨yh S.sub,λb u e n=>?_,λq m=>?_,λi d e=>?_,λi c e=>?_,λi c e=>?_,S.ne,S.len,λq u e=>?_⟩,sm⟩
 ·rw[ax (dq (S.keep b u e n) h)];exact S.keep b u e n
 ·by_cases f:q=p;simp_all [aT];rw[ax f];exact S.dB q m
 ·obtain⟨v,a,b⟩:=S.D i d e;exact⟨v,a,Rep.mono sm b⟩
 ·obtain⟨q,a,b,j,l⟩:=S.O i c e;exact⟨q,a,b.keeps (ax<|ne b) sm (by rw[ax (ne b)];exact b.some.2),j,l⟩
 ·obtain⟨q,a,b,j⟩:=S.io i c e;exact⟨q,a,b.keeps (ax<|ne b) sm (by rw[ax (ne b)];exact b.some.2),j⟩
 by_cases f:q=p
 ·subst f;exact τ<|ι (S.bB h).1
 rw[ax f] at e;exact S.nw q u e
def SR.made(S:SR K H0 ps Z σ H Hi)(h:H p=am):SR K H0 ps Z σ (upd H p o) Hi:=by
 have j:=S.cX h;have ne:∀{q:dn}{c:Dat},cx K H Hi q c->q≠p:=λd=>dq d.some.1.choose_spec h;refine⟨vV S.sub j,λb u e n=>?_,λq m=>?_,S.D,λi c e=>?_,λi c e=>?_,S.ne,S.len,S.nw⟩
 ·rw[ax (dq (S.keep b u e n) h)];exact S.keep b u e n
 ·by_cases d:q=p;simp_all [aT];rw[ax d];exact S.dB q m
 ·obtain⟨q,a,b,f,k⟩:=S.O i c e;exact⟨q,a,b.keeps (ax<|ne b) (ag.refl _) b.some.2,f,k⟩
 obtain⟨q,a,b,f⟩:=S.io i c e;exact⟨q,a,b.keeps (ax<|ne b) (ag.refl _) b.some.2,f⟩
def SR.dO(S:SR K H0 ps Z σ H Hi)(h:H p=am):∀(i:Nat) (c':Dat),(Z[i]?=al (.O c')\/Z[i]?=al (.io c'))->σ[i]?≠al (al<|.ref p):=by
 rintro i c' (e|e) z
 ·obtain⟨q,a,b,_⟩:=S.O i c' e;rw[a] at z;cases z;rw[b.some.1.choose_spec] at h;cases h
 obtain⟨q,a,b,_⟩:=S.io i c' e;rw[a] at z;cases z;rw[b.some.1.choose_spec] at h;cases h
theorem SR.freeze(S:SR K H0 ps Z σ H Hi)(h:RR K H0 ps Z σ H Hi v r):∃f,SR K H0 ps Z σ H f/\ag Hi f/\Rep K f r.val v:=by
 cases r with
 | D d=>exact⟨Hi,S,ag.refl _,h⟩
 | O c =>
  obtain⟨p,rfl,l,np,x,nd⟩:=h;have go:∀o,H p=al o->(∃f,f=upd Hi p o/\SR K H0 ps Z σ H f/\ag Hi f):=λo e=>by
   have sm:ag Hi (upd Hi p o):=jU l.some.2;refine⟨_,ρ,⟨EA S.sub e,S.keep,S.dB,λi d j=>?_,λi c' j=>?_,λi c' j=>?_,S.ne,S.len,λq u j=>?_⟩,sm⟩
   ·obtain⟨v,a,b⟩:=S.D i d j;exact⟨v,a,Rep.mono sm b⟩
   ·obtain⟨q,a,b,t,A⟩:=S.O i c' j;have k:q≠p:=λz=>nd i c' (ι j) (by rw[a,z]);exact⟨q,a,b.keeps ρ sm (by rw[ax k];exact b.some.2),t,A⟩
   ·obtain⟨q,a,b,t⟩:=S.io i c' j;have k:q≠p:=λz=>nd i c' (τ j) (by rw[a,z]);exact⟨q,a,b.keeps ρ sm (by rw[ax k];exact b.some.2),t⟩
   by_cases k:q=p
   ·subst k;exact τ<|ι x
   rw[ax k] at j;exact S.nw q u j
  cases c with
  | L ds=>obtain⟨vs,e,r,n⟩:=l;obtain⟨f,rfl,m,sm⟩:=go _ e;exact⟨_,m,sm,p,vs,ρ,Rd.of aT,aw.mono sm r⟩
  | bV B=>obtain⟨vs,e,r,n⟩:=l;obtain⟨f,rfl,m,sm⟩:=go _ e;exact⟨_,m,sm,p,vs,ρ,aT,bC.mono sm r⟩
  | aN fz B=>obtain⟨rfl,vs,e,r,n⟩:=l;obtain⟨f,rfl,m,sm⟩:=go _ e;exact⟨_,m,sm,p,{cls:=.none,data:=.fields #[]},vs,ρ,aT,bR.mono sm r⟩
  | _=>exact l.elim
end
abbrev EF:=DS->Option (Res×DS)
abbrev DF:=DS->Option (Dat×DS)
abbrev BF:=DS->Option (Bool×DS)
abbrev AF:=DS->Option (List Dat×DS)
def TZ(K:ft)(b:Hp×Hp)(c:Nat->Option dn)(σ:St)(Hi:Hp)(Q:VK)(r:Res)(Z':DS):Prop:=∀v H' a,SR K b c Z' σ H' a->ag Hi a->RR K b c Z' σ H' a v r->Q v H'
def Nq(K:ft)(b:Hp×Hp)(c:Nat->Option dn)(σ:St)(Hi:Hp)(Q:VK)(d:Dat)(Z':DS):Prop:=∀v H' a,SR K b c Z' σ H' a->ag Hi a->Rep K a d v->Q v H'
def AJ(K:ft)(b:Hp×Hp)(c:Nat->Option dn)(σ:St)(Hi:Hp)(Q:Hp->Prop)(Z':DS):Prop:=∀H' a,SR K b c Z' σ H' a->ag Hi a->Q H'
def LC(K:ft)(b:Hp×Hp)(c:Nat->Option dn)(σ:St)(Hi:Hp)(Q:List V->Hp->Prop)(ds:List Dat)(Z':DS):Prop:=∀vs H' a,SR K b c Z' σ H' a->ag Hi a->aw K a ds vs->Q vs H'
def Jy(X:Cx)(f:EF)(t:TE):Prop:=∀(a:Hp×Hp) (b:Nat->Option dn) (Z:DS) (σ:St) (H Hi:Hp) (r:Res) (Z':DS) (Q:VK),f Z=al (r,Z')->SR X.K a b Z σ H Hi ->
 TZ X.K a b σ Hi Q r Z'->t σ H Q
inductive DE (X:Cx) (e:hH) (f:EF):Prop
 | mk (t:TE) (p:PE X e t) (q:Jy X f t)
def Ro(X:Cx)(f:DF)(t:TE):Prop:=∀(a:Hp×Hp) (b:Nat->Option dn) (Z:DS) (σ:St) (H Hi:Hp) (d:Dat) (Z':DS) (Q:VK),f Z=al (d,Z')->SR X.K a b Z σ H Hi ->
 Nq X.K a b σ Hi Q d Z'->t σ H Q
inductive DD (X:Cx) (e:hH) (f:DF):Prop
 | mk (t:TE) (p:PE X e t) (q:Ro X f t)
def TF(X:Cx)(f:BF)(t:TT):Prop:=∀(a:Hp×Hp) (c:Nat->Option dn) (Z:DS) (σ:St) (H Hi:Hp) (b:Bool) (Z':DS) (Q:Bool->Hp->Prop),f Z=al (b,Z')->SR X.K a c Z σ H Hi ->
 AJ X.K a c σ Hi (Q b) Z'->t σ H Q
inductive DT (X:Cx) (e:hH) (f:BF):Prop
 | mk (t:TT) (p:PT X e t) (q:TF X f t)
def Kw(X:Cx)(f:BF)(t:TT):Prop:=∀(a:Hp×Hp) (c:Nat->Option dn) (Z:DS) (σ:St) (H Hi:Hp) (b:Bool) (Z':DS) (Q:Bool->Hp->Prop),f Z=al (b,Z')->SR X.K a c Z σ H Hi ->
 AJ X.K a c σ Hi (Q b) Z'->t σ H Q
inductive DW (X:Cx) (e:hH) (f:BF):Prop
 | mk (t:TT) (p:PW X e t) (q:Kw X f t)
def Ig(X:Cx)(f:AF)(t:TA):Prop:=∀(a:Hp×Hp) (b:Nat->Option dn) (Z:DS) (σ:St) (H Hi:Hp) (ds:List Dat) (Z':DS) (Q:List V->Hp->Prop),f Z=al (ds,Z')->SR X.K a b Z σ H Hi ->
 LC X.K a b σ Hi Q ds Z'->t σ H Q
inductive DA (X:Cx) (es:List hH) (f:AF):Prop
 | mk (t:TA) (p:PA X es t) (q:Ig X f t)
def ij(f:EF):DF:=λZ=>(f Z).map λp=>(p.1.val,p.2)
noncomputable def wA(f:DF):EF:=λZ=>(f Z).map λp=>(.D p.1,p.2)
section
variable{X:Cx}{e a b c:hH}{pos:H9}{K:ft}{H0:Hp×Hp}{H Hi:Hp}{ps:Nat->Option dn}{Z Z':DS}{σ:St}{i:Nat}{r:Res}{v:V}
def DW.dt (h:DW X e f):DT X e f:=let ⟨t,p,q⟩:=h;⟨t,p.pt,q⟩
def DE.dd (h:DE X e f):DD X e (ij f):=by obtain⟨t,p,q⟩:=h;refine⟨t,p,λH0 ps Z σ H Hi d Z' Q g S k=>?_⟩;obtain⟨r,Z1,m,g⟩:=oN g;obtain⟨rfl,rfl⟩:=sP g;refine q H0 ps Z σ H Hi r Z1 Q m S λv H' Hi' n s' o=>?_;obtain⟨j,s,u,l⟩:=n.freeze o;exact k v H' j s (s'.trans u) l
def DD.de (h:DD X e f):DE X e (wA f):=by obtain⟨t,p,q⟩:=h;refine⟨t,p,λH0 ps Z σ H Hi r Z' Q g S k=>?_⟩;obtain⟨d,Z1,m,g⟩:=oN g;obtain⟨rfl,rfl⟩:=sP g;exact q H0 ps Z σ H Hi d Z1 Q m S λv H' j n s' l=>k v H' j n s' l
noncomputable def fC(d:Dat):DF:=λZ=>al (d,Z)
def uP (h:PE X e (tC v))(r:∀H,Rep X.K H d v):DD X e (fC d) :=
 ⟨_,h,λH0 ps Z σ H Hi d' Z' Q f S k=>by obtain⟨rfl,rfl⟩:=sP f;exact k v H Hi S (ag.refl _)<|r _⟩
def RT{i j}:DD X (.Constant (.int i) j pos) (fC<|.int i):=uP (λ_ _ _ H _ I h=>wpAny_Constant_int ⟨.int i,H,I.tok _,⟨_,ρ⟩,h⟩) λ_=>rfl
def Sr{i j}:DD X (.Constant (.bool i) j pos) (fC<|.bl i):=uP F0 λ_=>rfl
def Se{x j}:DD X (.Constant (.str x) j pos) (fC<|.str x):=uP yg λ_=>rfl
structure Glob (X:Cx) (x:e6) (d:Dat):Prop where
 gl:Gl X x
 is:∃v u,X.mg x=al u/\RelV v u/\∀H,Rep X.K H d v
def Js (h:Glob X x d)(hd:bD x:=by decide):DD X (.Name x pos) (fC d):=by obtain⟨v,u,f,g,j⟩:=h.is;exact uP (DR h.gl f g hd) j
noncomputable def cf(i:Nat):DF:=λZ=>match Z[i]? with
 | some (.D d)=>al (d,Z)
 | some (.O c)=>al (c,Z.set i<|.D c)
 | _=>am
def SR.kB{K:ft}{H0:Hp×Hp}{H Hi:Hp}{ps:Nat->Option dn}{Z:DS}{σ:St}{i:Nat}{c:Dat}(S:SR K H0 ps Z σ H Hi)(e:Z[i]?=al (.O c)) :
  ∃g v,σ[i]?=al (al v)/\SR K H0 ps (Z.set i<|.D c) σ H g/\ag Hi g/\Rep K g c v:=by
 obtain⟨p,t,A,B,C⟩:=S.O i c e;have n:=(cm.1 e).1;have D:SR K H0 ps (Z.set i .no) σ H Hi:=by
  have get:∀{j:Nat}{s:Slot},(Z.set i .no)[j]?=al s->s≠.no->j≠i/\Z[j]?=al s:=λ{j s} h y=>by by_cases f:j=i;simp_all;rw[gD (Ne.symm f)] at h;exact⟨f,h⟩
  refine⟨S.sub,S.keep,S.dB,λj d h=>S.D j d (get h ⋯).2,λj c' h=>S.O j c' (get h ⋯).2,λj c' h=>S.io j c' (get h ⋯).2,λj k c' m q u x=>?_,by rw[nL];exact S.len,S.nw⟩;exact S.ne j k c' m q (u.imp (λz=>(get z ⋯).2) λz=>(get z ⋯).2) (x.imp (λz=>(get z ⋯).2) λz=>(get z ⋯).2)
 have r:RR K H0 ps (Z.set i .no) σ H Hi (.ref p) (.O c):=by
  refine⟨p,ρ,A,B,C,λj c' h z=>?_⟩;have f:j≠i:=λw=>by simp_all
  rw[gD (Ne.symm f)] at h;exact f<|S.ne j i c' c p h (ι e) z t
 obtain⟨g,l,E,o⟩:=D.freeze r;refine⟨g,.ref p,t,⟨l.sub,l.keep,l.dB,λj d h=>?_,λj c' h=>?_,λj c' h=>?_,λj k c' m q u x F G=>?_,by rw[nL];exact S.len,l.nw⟩,E,o⟩
 ·by_cases f:j=i
  ·subst f;rw[ka n] at h;cases h;exact⟨_,t,o⟩
  rw[gD (Ne.symm f)] at h;exact l.D j d (by rw[gD (Ne.symm f)];exact h)
 all_goals
  have back:∀{j:Nat}{s:Slot},(Z.set i<|.D c)[j]?=al s->(∀d,s≠.D d)->(Z.set i .no)[j]?=al s:=λ{j s} h y=>by
   by_cases f:j=i
   ·subst f;rw[ka n] at h;obtain rfl:=sO h;exact absurd ρ<|y c
   rw[gD (Ne.symm f)] at h ⊢;exact h
 ·exact l.O j c'<|back h (by intro d;simp)
 ·exact l.io j c'<|back h (by intro d;simp)
 exact l.ne j k c' m q (u.imp (λz=>back z (by intro d;simp)) λz=>back z (by intro d;simp)) (x.imp (λz=>back z (by intro d;simp)) λz=>back z (by intro d;simp)) F G
def PY (i:Nat)(m:X.N[i]?=al x)(n:cj X.env.scope x)(hd:bD x:=by decide)(j:cH x:=by decide):DD X (.Name x pos) (cf i):=by
 refine⟨_,fh m n hd j,λH0 ps Z σ H Hi d Z' Q f S k=>?_⟩;unfold cf at f;split at f
 ·rename_i d0 g;cases f;obtain⟨v,h,r⟩:=S.D i d g;exact⟨v,h,k v H Hi S (ag.refl _) r⟩
 ·rename_i c0 g;obtain⟨rfl,rfl⟩:=sP f;obtain⟨l,v,h,o,s',r⟩:=S.kB g;exact⟨v,h,k v H l o s' r⟩
 exact nO f
noncomputable def AW(i:Nat):EF:=λZ=>match Z[i]? with
 | some (.D d)=>al (.D d,Z)
 | some (.O c)=>al (.O c,Z.set i .no)
 | _=>am
def LN (i:Nat)(t:X.N[i]?=al x)(u:cj X.env.scope x)(hd:bD x:=by decide)(m:cH x:=by decide):DE X (.Name x pos) (AW i):=by
 refine⟨_,fh t u hd m,λH0 ps Z σ H Hi r Z' Q f S k=>?_⟩;unfold AW at f;split at f
 ·rename_i w g;obtain⟨rfl,rfl⟩:=sP f;obtain⟨v,l,r⟩:=S.D i w g;exact⟨v,l,k v H Hi S (ag.refl _) r⟩
 ·rename_i c0 g;obtain⟨rfl,rfl⟩:=sP f;obtain⟨p,l,y,A,B⟩:=S.O i c0 g;have hlt:=(cm.1 g).1;have get:∀{j:Nat}{s:Slot},(Z.set i .no)[j]?=al s->s≠.no->j≠i/\Z[j]?=al s:=λ{j s} h hn=>by by_cases n:j=i;simp_all;rw[gD (Ne.symm n)] at h;exact⟨n,h⟩
  refine⟨.ref p,l,k (.ref p) H Hi ⟨S.sub,S.keep,S.dB,λj d h=>S.D j d (get h ⋯).2,λj c' h=>S.O j c' (get h ⋯).2,λj c' h=>S.io j c' (get h ⋯).2,λj k c' o q C D=>?_,by rw[nL];exact S.len,S.nw⟩ (ag.refl _) ⟨p,ρ,y,A,B,λj c' h z=>?_⟩⟩
  ·exact S.ne j k c' o q (C.imp (λz=>(get z ⋯).2) λz=>(get z ⋯).2) (D.imp (λz=>(get z ⋯).2) λz=>(get z ⋯).2)
  have h':j≠i/\(Z[j]?=al (.O c')\/Z[j]?=al (.io c')):=by
   rcases h with h|h
   ·exact⟨(get h ⋯).1,ι (get h ⋯).2⟩
   exact⟨(get h ⋯).1,τ (get h ⋯).2⟩
  exact h'.1<|S.ne j i c' c0 p h'.2 (ι g) z l
 exact nO f
noncomputable def bW(op:Dat->Dat->Option Res)(f g:DF):EF:=λZ=>(f Z).bind λp=>(g p.2).bind λq=>(op p.1 q.1).map λr=>(r,q.2)
def fF(X:Cx)(r:R2)(op:Dat->Dat->Option Res):Prop:=∀(H0:Hp×Hp) (ps:Nat->Option dn) (Z:DS) (σ:St) (H Hi:Hp) (x y:V) (d d':Dat) (o:Res) (Q:VK),op d d'=al o->SR X.K H0 ps Z σ H Hi->Rep X.K Hi d x->Rep X.K Hi d' y ->
 (∀v H' f,SR X.K H0 ps Z σ H' f->ag Hi f->RR X.K H0 ps Z σ H' f v o->Q v H')->r x y H Q
def yS{r:R2}{op:Dat->Dat->Option Res}{f g:DF}{l m:TE}(t:fF X r op)
 (u:∀(H0:Hp×Hp) (ps:Nat->Option dn) (Z:DS) (σ:St) (H Hi:Hp) (d:Dat) (Z':DS) (Q:VK),f Z=al (d,Z')->SR X.K H0 ps Z σ H Hi->(∀v H' h,SR X.K H0 ps Z' σ H' h->ag Hi h->Rep X.K h d v->Q v H')->l σ H Q)
 (w:∀(H0:Hp×Hp) (ps:Nat->Option dn) (Z:DS) (σ:St) (H Hi:Hp) (d:Dat) (Z':DS) (Q:VK),g Z=al (d,Z')->SR X.K H0 ps Z σ H Hi->(∀v H' h,SR X.K H0 ps Z' σ H' h->ag Hi h->Rep X.K h d v->Q v H')->m σ H Q)
 (H0:Hp×Hp)(ps:Nat->Option dn)(Z:DS)(σ:St)(H Hi:Hp)(o:Res)(Z':DS)(Q:VK)(j:bW op f g Z=al (o,Z'))(S:SR X.K H0 ps Z σ H Hi)
 (k:∀v H' h,SR X.K H0 ps Z' σ H' h->ag Hi h->RR X.K H0 ps Z' σ H' h v o->Q v H'):ow r l m σ H Q:=by
 obtain⟨d,Z1,z,j⟩:=oB j;obtain⟨d',Z2,A,j⟩:=oB j;obtain⟨o',B,j⟩:=oM j;obtain⟨rfl,rfl⟩:=sP j;refine u H0 ps Z σ H Hi d Z1 _ z S λx C n D E F=>?_;refine w H0 ps Z1 σ C n d' _ _ A D λy G p I q J=>?_;exact t H0 ps _ σ G p x y d d' _ Q B I (Rep.mono q F) J λv L s M N O=>k v L s M ((E.trans q).trans N) O
def nU{op:Operator}{r:R2}{d:Dat->Dat->Option Res}{f g:DF}(h:aQ X (Xw op) r)(j:fF X r d)(k:DD X a f)(l:DD X b g):DE X (.BinOp a op b pos) (bW d f g):=by obtain⟨ta,m,n⟩:=k;obtain⟨tb,o,p⟩:=l;exact⟨_,(λe f g=>by exact λd s σ H Q I h=>wpAny_BinOp (AH f g I h λv u i x y j k rx l q=>e d i σ j x y v u Q k rx l q)) h m o,yS j n p⟩
def pY{op:aa2}{r:R2}{d:Dat->Dat->Option Res}{f g:DF}(h:aQ X (mu op) r)(j:fF X r d)(k:DD X a f)(l:DD X b g)(m:za op b=bn):DE X (.Compare a [op] [b] pos) (bW d f g):=by obtain⟨ta,n,o⟩:=k;obtain⟨tb,p,q⟩:=l;exact⟨_,CO h n p m,yS j o q⟩
def BQ:R2:=λx y H Q=>∃l b xs d,x=.ref l/\y=.ref b/\Rd H l (.L xs)/\Rd H b (.L d)/\xs.length+d.length<=dk/\∀p,H p=am->Q (.ref p) (upd H p<|.L<|xs++d)
def Fk(K:ft):R2:=λx y H Q=>∃l b xs d,x=.ref l/\y=.ref b/\bA K H l xs/\Rd H b (.L d)/\xs.length+d.length<=dk/\∀p,H p=am->Q (.ref p) (upd H p<|.L<|xs++d)
def SJ(i j:Int):Prop:=0<j/\j.natAbs.log2<9000
def Kj:aQ X (Xw .FloorDiv) (rI SJ λi j=>.int<|i/j):=vA λi j _ _ _ _ _ d q=>by have h1:=d.1;exact floordiv_int (by lia) (by rw[Int.fdiv_eq_ediv_of_nonneg i (by lia)];exact q)<|ι<|PyProof.noPylong_of_log2 d.2
theorem aw.ints:∀(d:List Int),aw K H (d.map Dat.int) (d.map V.int)
 | []=>rfl
 | n::d=>⟨_,_,ρ,ρ,aw.ints d⟩
noncomputable def iJ:Dat->Dat->Option Res
 | .int i,.int j=>al (.D<|.int<|i+j)
 | .str x,.str y=>if x.length+y.length<=dk then al (.D<|.str<|x++y) else am
 | .L xs,.L ys=>if xs.length+ys.length<=dk then al (.O<|.L<|xs++ys) else am
 | .cw xs,.L ys=>if xs.length+ys.length<=dk then al (.O<|.L<|xs.map Dat.int++ys) else am
 | .U (x::xs),.U (y::ys)=>if (x::xs).length+(y::ys).length<=dk then al (.D<|.U<|(x::xs)++(y::ys)) else am
 | _,_=>am
def Ex(K:ft):R2:=λx y H Q=>iK (λi j=>.int<|i+j) x y H Q\/(λx y H Q=>(λx y H Q=>∃i j,x=.str i/\y=.str j/\i.length+j.length<=dk/\Q (.str<|i++j) H) x y H Q\/(λx y H Q=>BQ x y H Q\/(λx y H Q=>Fk K x y H Q\/G6 K x y H Q) x y H Q) x y H Q) x y H Q
def O9:aQ X (Xw .Add) (Ex X.K):=aQ.or (D6 λ_ _ _ _ _ _ _ q=>add_int q) (aQ.or P7 (aQ.or (by
  intro pins s σ H x y v u Q I rx g h;obtain⟨l,b,xs,zs,rfl,rfl,j,k,hz,q⟩:=h;subst rx;subst g;obtain⟨z,its,n,r,e⟩:=j.ok I.ak;obtain⟨z2,d,n2,f,m⟩:=k.ok I.ak;have hl:=r.length;have hl2:=f.length;refine PySem.P.add_list e m ?_ (by rw[gs,gs];lia);have o:its.toArray++d.toArray=(its++d).toArray:=⋯
  rw[o];exact⟨.ref _,_,I.wD (r.append f) (by rw[eW];omega),ρ,q _ I.fresh⟩) (aQ.or (by
    intro pins s σ H x y v u Q I rx o h;obtain⟨l,b,xs,zs,rfl,rfl,p,t,hz,q⟩:=h;subst rx;subst o;obtain⟨its,r,⟨⟨cls,dd,data,w⟩,n,f,g,hd,j⟩,z⟩:=I.list p;subst g hd j;obtain⟨z2,d,A,k,m⟩:=t.ok I.ak;have hl:=r.length;have hl2:=k.length;refine abC ⟨_,f,ρ⟩ ⟨_,m,ρ⟩ noFill_list_add seq_list_add PySem.F.slot_list_add PySem.F.entry_list_add (PySem.F.args_list_add_2 _ _) (list_addW l b its.toArray d.toArray n A am am w #[] (by rw[gs,gs];lia)) ⟨f,m,?_⟩;have B:its.toArray++d.toArray=(its++d).toArray:=⋯
    rw[B];exact⟨.ref _,_,I.wD (r.append k) (by rw[eW];omega),ρ,q _ I.fresh⟩) R5)))
def JP:fF X (Ex X.K) iJ:=by
 intro H0 ps Z σ H Hi x y d d' o Q e S rx l k;delta iJ at e;split at e
 ·obtain rfl:=sO e;subst rx;subst l;exact ι ⟨_,_,ρ,ρ,k _ H Hi S (ag.refl _) ρ⟩
 ·split at e
  ·rename_i h;obtain rfl:=sO e;subst rx;subst l;exact τ<|ι ⟨_,_,ρ,ρ,h,k _ H Hi S (ag.refl _) ρ⟩
  exact nO e
 ·split at e
  ·rename_i h;obtain rfl:=sO e;obtain⟨p,vs,rfl,m,n⟩:=rx;obtain⟨s,j,rfl,t,g⟩:=l;refine τ (τ<|ι ⟨p,s,vs,j,ρ,ρ,Rd.mono S.sub m,Rd.mono S.sub t,by rw[n.length,g.length];exact h,λq f=>?_⟩);exact k (.ref q) _ Hi (S.made f) (ag.refl _) ⟨q,ρ,⟨_,aT,aw.append n g,S.cX f⟩,(S.bB f).2,(S.bB f).1,S.dO f⟩
  exact nO e
 ·split at e
  ·rename_i h;obtain rfl:=sO e;obtain⟨p,rfl,m⟩:=rx;obtain⟨s,j,rfl,t,g⟩:=l;refine τ (τ<|τ<|ι ⟨p,s,_,j,ρ,ρ,bA.mono S.sub m,Rd.mono S.sub t,by rw[bt,g.length];exact h,λq f=>?_⟩);exact k (.ref q) _ Hi (S.made f) (ag.refl _) ⟨q,ρ,⟨_,aT,aw.append (aw.ints _) g,S.cX f⟩,(S.bB f).2,(S.bB f).1,S.dO f⟩
  exact nO e
 ·split at e
  ·rename_i h;obtain rfl:=sO e;obtain⟨p,vs,rfl,m,n⟩:=rx;obtain⟨s,j,rfl,t,g⟩:=l;have u:=n.length;have w:=g.length;refine τ<|τ<|τ<|τ ⟨p,s,vs,j,ρ,ρ,aS.mono S.sub m,aS.mono S.sub t,λz=>?_,by rw[u,w];exact h,λz=>?_,λ_ q f=>?_⟩
   ·rw[z] at u;contradiction
   ·rw[z] at w;contradiction
   obtain⟨A,s'⟩:=S.laid f;exact k (.ref q) _ _ A s' ⟨q,_,ρ,aS.of aT,aw.mono s'<|aw.append n g⟩
  exact nO e
 exact nO e
noncomputable def fR(C:Int->Int->Bool)(g:Int->Int->Dat):Dat->Dat->Option Res
 | .int i,.int j=>if C i j=bi then al (.D<|g i j) else am
 | _,_=>am
def vF (h:∀i j,C i j=bi->f i j)(l:∀i j K H,Rep K H (g i j)<|g' i j):fF X (rI f g') (fR C g):=by
 intro H0 ps Z σ H Hi x y d d' o Q e S rx m k;delta fR at e;split at e
 ·split at e
  ·rename_i n;obtain rfl:=sO e;subst rx;subst m;exact⟨_,_,ρ,ρ,h _ _ n,k _ H Hi S (ag.refl _)<|l _ _ _ _⟩
  exact nO e
 exact nO e
def uw (f:∀i j K H,Rep K H (g i j)<|g' i j):fF X (iK g') (fR (λ_ _=>true) g):=by
 intro H0 ps Z σ H Hi x y d d' o Q e S rx h k;delta fR at e;split at e
 ·split at e
  ·obtain rfl:=sO e;subst rx;subst h;exact⟨_,_,ρ,ρ,k _ H Hi S (ag.refl _)<|f _ _ _ _⟩
  contradiction
 exact nO e
noncomputable def lg:Res->Slot
 | .D d=>.D d
 | .O c=>.O c
def mF(i:Nat)(r:Res)(Z:DS):Option DS:=match Z[i]? with
 | none=>am
 | some (.io _)=>am
 | some _=>al<|Z.set i<|lg r
theorem SR.put(S:SR K H0 ps Z σ H Hi)(u:RR K H0 ps Z σ H Hi v r)(e:mF i r Z=al Z'):SR K H0 ps Z' (σ.set i<|al v) H Hi:=by
 delta mF at e;cases w:Z[i]? with
 | none=>rw[w] at e;exact nO e
 | some s =>
  have o:=(cm.1 w).1;have B:i<σ.length:=by rw[<-S.len];exact o
  have F:Z'=Z.set i (lg r)/\∀c,s≠.io c:=by rw[w] at e;cases s<;>first|(exact nO e;done)|(exact⟨(Option.some.inj e).symm,by intro c;simp⟩)
  obtain⟨rfl,_⟩:=F;have other:∀{j:Nat}{s':Slot},j≠i->(Z.set i<|lg r)[j]?=al s'->Z[j]?=al s':=λ{j s'} f h=>by rwa[gD (Ne.symm f)] at h
  have aau:∀{s':Slot},(Z.set i<|lg r)[i]?=al s'->s'=lg r:=λ{s'} h=>by rw[ka o] at h;exact (Option.some.inj h).symm
  have g:∀{j:Nat},j≠i->(σ.set i<|al v)[j]?=σ[j]?:=λ{j} f=>gD<|Ne.symm f;have x:(σ.set i<|al v)[i]?=al (al v):=ka B;refine⟨S.sub,S.keep,S.dB,λj d h=>?_,λj c h=>?_,λj c h=>?_,λj k c c' p y A m n=>?_,by simp only[nL,nL];exact S.len,S.nw⟩
  ·by_cases f:j=i
   ·subst f;have q:=aau h;cases r with
    | D d'=>cases q;exact⟨v,x,u⟩
    | O c=>contradiction
   rw[g f];exact S.D j d<|other f h
  ·by_cases f:j=i
   ·subst f;have q:=aau h;cases r with
    | D d'=>cases q
    | O c =>
     cases q;obtain⟨p,rfl,C,D,E,_⟩:=u;exact⟨p,x,C,D,E⟩
   rw[g f];exact S.O j c<|other f h
  ·by_cases f:j=i
   ·subst f;have q:=aau h;cases r<;>contradiction
   rw[g f];exact S.io j c<|other f h
  have back:∀{j:Nat}{c:Dat},((Z.set i<|lg r)[j]?=al (.O c)\/(Z.set i<|lg r)[j]?=al (.io c))->j≠i->(Z[j]?=al (.O c)\/Z[j]?=al (.io c)):=λh f=>h.imp (other f) (other f);have t:∀{c:Dat}{p:dn},((Z.set i<|lg r)[i]?=al (.O c)\/(Z.set i<|lg r)[i]?=al (.io c))->(σ.set i<|al v)[i]?=al (al<|.ref p)->∀(k:Nat) (c':Dat),(Z[k]?=al (.O c')\/Z[k]?=al (.io c'))->σ[k]?≠al (al<|.ref p):=λ{c p} h z=>by
   rw[x] at z;cases r with
   | D d'=>rcases h with h|h<;>cases aau h
   | O c0=>obtain⟨p',G,C,D,E,nd⟩:=u;subst G;cases z;exact nd
  by_cases f:j=i
  ·by_cases l:k=i
   ·simp only[f,l]
   subst f;rw[g l] at n;exact absurd n<|t y m k c'<|back A l
  by_cases l:k=i
  ·subst l;rw[g f] at m;exact absurd m<|t A n j c<|back y f
  rw[g f] at m;rw[g l] at n;exact S.ne j k c c' p (back y f) (back A l) m n
abbrev GF:=Dat->DS->Option DS
def Ia(X:Cx)(g:GF)(t:TG):Prop:=∀(H0:Hp×Hp) (ps:Nat->Option dn) (Z:DS) (σ:St) (H Hi:Hp) (d:Dat) (Z':DS) (v:V) (Q:St->Hp->Prop),g d Z=al Z'->SR X.K H0 ps Z σ H Hi->Rep X.K Hi d v ->
 (∀σ',SR X.K H0 ps Z' σ' H Hi->Q σ' H)->t v σ H Q
inductive DG (X:Cx) (tg:hH) (g:GF):Prop
 | mk (t:TG) (p:PG X tg t) (q:Ia X g t)
def L0(X:Cx)(g:List Dat->DS->Option DS)(t:jE):Prop:=∀(H0:Hp×Hp) (ps:Nat->Option dn) (Z:DS) (σ:St) (H Hi:Hp) (ds:List Dat) (Z':DS) (vs:List V) (Q:St->Hp->Prop),g ds Z=al Z'->SR X.K H0 ps Z σ H Hi->aw X.K Hi ds vs ->
 (∀σ',SR X.K H0 ps Z' σ' H Hi->Q σ' H)->t vs σ H Q
inductive nC (X:Cx) (tgs:List hH) (g:List Dat->DS->Option DS):Prop
 | mk (t:jE) (p:pK X tgs t) (q:L0 X g t)
def vQ(i:Nat):GF:=λd Z=>mF i (.D d) Z
noncomputable def TM:List Dat->DS->Option DS
 | [],Z=>al Z
 | _,_=>am
noncomputable def Ey(g:GF)(f:List Dat->DS->Option DS):List Dat->DS->Option DS
 | d::ds,Z=>(g d Z).bind (f ds)
 | [],_=>am
theorem Uo:nC X [] TM:=by
 refine⟨_,xc,λH0 ps Z σ H Hi ds Z' vs Q e S r k=>?_⟩;cases ds with
 | nil=>obtain rfl:=sO e;exact⟨r,k σ S⟩
 | cons _ _=>exact nO e
theorem O4 (m:DG X e g)(n:nC X f h)(o:(t9 (e::f) X.env).map (·.2)=Ya e X.env::(t9 f X.env).map (·.2):=by rfl):nC X (e::f) (Ey g h):=by
 obtain⟨t1,p,q⟩:=m;obtain⟨t2,s,t⟩:=n;refine⟨_,sN p s o,λH0 ps Z σ H Hi ds Z' vs Q e S r k=>?_⟩;cases ds with
 | nil=>exact nO e
 | cons d ds=>obtain⟨v,j,rfl,u,w⟩:=r;obtain⟨Z1,x,e⟩:=oA e;exact⟨v,j,ρ,q H0 ps Z σ H Hi d Z1 v _ x S u λl y=>t H0 ps Z1 l H Hi ds Z' j Q e y w k⟩
inductive Out where
 | next (Z:DS)|ret (r:Res) (Z:DS)|brk (Z:DS)|cont (Z:DS)|exc (C:dn) (Z:DS)
def XE(X:Cx)(C:dn)(σ:St)(H:Hp):Prop:=Pq X σ C H/\∀a,IX X σ (.ref C) a H
abbrev SF:=DS->Option Out
def nQ(X:Cx)(H0:Hp×Hp)(ps:Nat->Option dn)(Hi:Hp)(D:Ends):Out->Prop
 | .next Z=>∀σ' H' d,SR X.K H0 ps Z σ' H' d->ag Hi d->D.nx σ' H'
 | .ret r Z=>∀v σ' H' d,SR X.K H0 ps Z σ' H' d->ag Hi d->RR X.K H0 ps Z σ' H' d v r->D.rt v H'
 | .brk Z=>∀σ' H' d,SR X.K H0 ps Z σ' H' d->ag Hi d->D.bk σ' H'
 | .cont Z=>∀σ' H' d,SR X.K H0 ps Z σ' H' d->ag Hi d->D.ct σ' H'
 | .exc C Z=>∀σ' H' d,SR X.K H0 ps Z σ' H' d->ag Hi d->XE X C σ' H'
theorem nQ.mono (s:ag Hi g)(h:nQ X H0 ps Hi D o):nQ X H0 ps g D o:=by
 cases o with
 | next Z=>exact fun σ' H' d S f=>h σ' H' d S (s.trans f)
 | ret r Z=>exact λv σ' H' d S f=>h v σ' H' d S (s.trans f)
 | brk Z=>exact fun σ' H' d S f=>h σ' H' d S (s.trans f)
 | cont Z=>exact fun σ' H' d S f=>h σ' H' d S (s.trans f)
 | exc C Z=>exact fun σ' H' d S f=>h σ' H' d S<|s.trans f
def OC(X:Cx)(f:SF)(t:TS):Prop:=∀(H0:Hp×Hp) (ps:Nat->Option dn) (Z:DS) (σ:St) (H Hi:Hp) (o:Out) (D:Ends),f Z=al o->SR X.K H0 ps Z σ H Hi->nQ X H0 ps Hi D o->t D σ H
inductive cg (X:Cx) (st:Xs) (f:SF):Prop
 | mk (t:TS) (p:PS X st t) (q:OC X f t)
def MJ(X:Cx)(f:SF)(t:TS):Prop:=∀(H0:Hp×Hp) (ps:Nat->Option dn) (Z:DS) (σ:St) (H Hi:Hp) (o:Out) (D:Ends),f Z=al o->SR X.K H0 ps Z σ H Hi->nQ X H0 ps Hi D o->t D σ H
inductive gh (X:Cx) (st:List Xs) (f:SF):Prop
 | mk (t:TS) (p:dF X st t) (q:MJ X f t)
noncomputable def kM:SF:=λZ=>al<|.next Z
noncomputable def iq(f g:SF):SF:=λZ=>(f Z).bind λo=>match o with
 | .next Z1=>g Z1
 | o=>al o
noncomputable def ng(f:DF):SF:=λZ=>(f Z).map λp=>.next p.2
noncomputable def lG(f:EF):SF:=λZ=>(f Z).map λp=>.ret p.1 p.2
noncomputable def jl(c:BF)(f g:SF):SF:=λZ=>(c Z).bind λp=>if p.1=bi then f p.2 else g p.2
def gQ(i:Nat)(f:EF):SF:=λZ=>(f Z).bind λp=>(mF i p.1 p.2).map .next
noncomputable def oO(g:GF)(f:DF):SF:=fun Z=>(f Z).bind fun p=>(g p.1 p.2).map .next
def pM:gh X [] kM:=⟨_,F4,λH0 ps Z σ H Hi o D e S k=>by obtain rfl:=sO e;exact k σ H Hi S<|ag.refl _⟩
theorem mv{st:Xs}{d:List Xs}{f g:SF}(j:cg X st f)(l:gh X d g):gh X (st::d) (iq f g):=by
 obtain⟨t1,m,n⟩:=j;obtain⟨t2,p,q⟩:=l;refine⟨_,jq m p,λH0 ps Z σ H Hi o D e S k=>?_⟩;obtain⟨o1,s,e⟩:=oA e;apply n H0 ps Z σ H Hi o1 _ s S;cases o1 with
 | next Z1=>exact fun σ' H' h t s'=>q H0 ps Z1 σ' H' h o D e t (k.mono s')
 | ret r Z1=>obtain rfl:=sO e;exact k
 | brk Z1=>obtain rfl:=sO e;exact k
 | cont Z1=>obtain rfl:=sO e;exact k
 | exc C Z1=>obtain rfl:=sO e;exact k
def ye (h:DD X e f)(j:Fs e am pos.line X.env=pure false:=by rfl):cg X (.Expr e pos) (ng f):=by obtain⟨t,p,q⟩:=h;refine⟨_,vR p j,λH0 ps Z σ H Hi o D e S k=>?_⟩;obtain⟨d,Z1,l,e⟩:=oN e;obtain rfl:=sO e;exact q H0 ps Z σ H Hi d Z1 _ l S λv H' g m s' _=>k σ H' g m s'
def D4 (h:DE X e f):cg X (.Return (al e) pos) (lG f):=by obtain⟨t,p,q⟩:=h;refine⟨_,vC p,λH0 ps Z σ H Hi o D e S k=>?_⟩;obtain⟨r,Z1,g,e⟩:=oN e;obtain rfl:=sO e;exact q H0 ps Z σ H Hi r Z1 _ g S λv H' d j s' l=>k v σ H' d j s' l
theorem zY{c:hH}{a b:List Xs}{fc:BF}{fa fb:SF}(g:DT X c fc)(h:gh X a fa)(j:gh X b fb):cg X (.If c a b pos) (jl fc fa fb):=by
 obtain⟨tc,l,m⟩:=g;obtain⟨ta,n,p⟩:=h;obtain⟨tb,q,s⟩:=j;refine⟨_,D8 l n q,λH0 ps Z σ H Hi o D e S k=>?_⟩;obtain⟨b,Z1,t,e⟩:=oB e;refine m H0 ps Z σ H Hi b Z1 _ t S λH' d f s'=>?_;cases b with
 | true=>exact p H0 ps Z1 σ H' d o D e f (k.mono s')
 | false=>exact s H0 ps Z1 σ H' d o D e f<|k.mono s'
theorem Td{j e:hH}{f:DF}{g:GF}(h:DD X e f)(s:DG X j g)(u:Y8 [j] e pos.line X.env=pure false:=by rfl)(hw:Y9 [j] e X.env=pure am:=by rfl)
 (w:(t9 [j] X.env).map (·.2)=[Ya j X.env]:=by rfl):cg X (.Assign [j] e pos) (oO g f):=by
 obtain⟨t,p,q⟩:=h;obtain⟨tg',m,x⟩:=s;refine⟨_,Cj p m u hw w,fun H0 ps Z σ H Hi o D e S k=>?_⟩;obtain⟨d,Z1,y,e⟩:=oB e;obtain⟨Z2,z,e⟩:=oM e;obtain rfl:=sO e;exact q H0 ps Z σ H Hi d Z1 _ y S fun v H' l A s' B=>x H0 ps Z1 σ H' l d _ v _ z A B fun n C=>k n H' l C s'
end
def JW(K:ft)(J:It)(items:List Dat)(Hi:Hp):Prop:=∀(i:Nat) (H':Hp),ag Hi H' ->
 (∀d,items[i]?=al d->J.go i H'/\∀x a,J.mE i H' x a->(a=H'/\Rep K Hi d x)\/∃p o,H' p=am/\a=upd H' p o/\∀b,ag Hi b->b p=am->Rep K (upd b p o) d x) /\
 (items.length<=i->J.stop i H')
def JW.mono{K:ft}{J:It}{items:List Dat}{Hi f:Hp}(h:JW K J items Hi)(s:ag Hi f):JW K J items f:=λi H' s'=>by
 obtain⟨g,l⟩:=h i H'<|s.trans s';refine⟨λd e=>⟨(g d e).1,λx j y=>?_⟩,l⟩;rcases (g d e).2 x j y with⟨a,b⟩|⟨p,o,a,b,c⟩
 ·exact ι ⟨a,Rep.mono s b⟩
 exact τ ⟨p,o,a,b,λk m n=>c k (s.trans m) n⟩
abbrev IF:=DS->Option (List Dat×DS)
def Ks(X:Cx)(f:IF)(e:TI):Prop:=∀(b:Hp×Hp) (c:Nat->Option dn) (Z:DS) (σ:St) (H Hi:Hp) (items:List Dat) (Z':DS) (R:It->Hp->Prop),f Z=al (items,Z')->SR X.K b c Z σ H Hi ->
 (∀J d a,SR X.K b c Z' σ d a->ag Hi a->JW X.K J items a->R J d)->e σ H R
inductive cO (X:Cx) (tg iter:hH) (f:IF):Prop
 | mk (wi:TI) (p:PI X tg iter wi) (q:Ks X f wi)
noncomputable def P9:Dat->Option (List Dat)
 | .L ds=>al ds
 | .U ds=>al ds
 | _=>am
def jI(f:DF):IF:=λZ=>(f Z).bind λp=>(P9 p.1).map λds=>(ds,p.2)
noncomputable def cN(lo n:Int):List Dat:=(hB (n-lo).toNat).map λk:Nat=>.int<|lo+(k:Int)
noncomputable def o6(f:AF):IF:=λZ=>(f Z).bind λp=>match p.1 with
 | [.int n]=>if -(2 ^ 62)<=n/\n<2 ^ 62 then al (cN 0 n,p.2) else am
 | _=>am
noncomputable def sF(f:AF):IF:=λZ=>(f Z).bind λp=>match p.1 with
 | [.int lo,.int n]=>if -(2 ^ 62)<=lo/\lo<2 ^ 62/\-(2 ^ 62)<=n/\n<2 ^ 62 then al (cN lo n,p.2) else am
 | _=>am
section
variable{X:Cx}{tg:hH}
def PI.or (d:PI X tg iter b)(e:PI X tg iter c):PI X tg iter (fun σ H R=>b σ H R\/c σ H R):=λa s σ H R I h=>h.elim (d a s σ H R I)<|e a s σ H R I
theorem QX (h:DD X e f):cO X tg e (jI f):=by
 obtain⟨t,p,q⟩:=h;refine⟨_,PI.or (oH p)<|IK p,λo s Z σ H Hi items Z' R c S k=>?_⟩;unfold jI at c;obtain⟨d,Z1,u,c⟩:=oB c;dsimp only at c;cases d with
 | L ds =>
  cases c;refine ι (q o s Z σ H Hi _ _ _ u S λv H' j l s' r=>?_);obtain⟨a,vs,rfl,b,rs⟩:=r;refine⟨a,ρ,⟨vs,ι<|Rd.mono l.sub b⟩,k _ H' j l s' λi w g=>⟨λd e=>?_,λhl=>⟨vs,ι<|Rd.mono g b,by rw[rs.length];exact hl⟩⟩⟩;obtain⟨x,ex,rx⟩:=rs.get e;refine⟨⟨vs,x,ι<|Rd.mono g b,ex⟩,λy z m=>ι ?_⟩;obtain⟨rfl,n⟩:=m;have:=n vs<|ι<|Rd.mono g b;simp_all
 | U ds =>
  cases c;refine τ (q o s Z σ H Hi _ _ _ u S λv H' j l s' r=>?_);obtain⟨a,vs,rfl,b,rs⟩:=r;refine⟨a,ρ,⟨vs,aS.mono l.sub b⟩,k _ H' j l s' λi w g=>⟨λd e=>?_,λhl=>⟨vs,aS.mono g b,by rw[rs.length];exact hl⟩⟩⟩;obtain⟨x,ex,rx⟩:=rs.get e;refine⟨⟨vs,x,aS.mono g b,ex⟩,λy z m=>ι ?_⟩;obtain⟨rfl,n⟩:=m;have:=n vs<|aS.mono g b;simp_all
 | _=>exact nO c
theorem Ga{K:ft}{lo n:Int}{Hi:Hp}:JW K (p6 lo (n-lo).toNat) (cN lo n) Hi:=λi H' _=>by
 refine⟨λd e=>?_,λhl=>?_⟩
 ·unfold cN at e;rw[c6] at e;have a:i<(n-lo).toNat:=by
   cases q:(hB (n-lo).toNat)[i]? with
   | none=>rw[q] at e;exact nO e
   | some j=>simpa using (cm.1 q).1
  rw[Zv a] at e;obtain rfl:=sO e;exact⟨a,λx H'' y=>ι ⟨y.1,y.2⟩⟩
 unfold cN at hl;rw[bt,lT] at hl;exact hl
def Iv (e:Gl X "range")(g:X.mg "range"=am)(h:DA X [a] f)(i:nk [a] X.env=[(false,eval a X.env)]:=by rfl):cO X tg (.Call (.Name "range" p) [a] [] pos) (o6 f):=by
 obtain⟨t,j,q⟩:=h;refine⟨_,Ke e g j i,λl m Z σ H Hi items Z' R b S k=>?_⟩;obtain⟨ds,Z1,o,b⟩:=oB b;dsimp only at b;refine q l m Z σ H Hi ds Z1 _ o S λvs H' c s s' r=>?_;split at b
 ·split at b
  ·rename_i n d;obtain⟨rfl,rfl⟩:=sP b;obtain⟨v,r1,rfl,u,w⟩:=r;subst u;subst w;refine⟨n,ρ,d.1,d.2,?_⟩;have:=k (p6 0 (n-0).toNat) H' c s s' Ga;rwa [Zf] at this
  exact nO b
 exact nO b
def IV (i:Gl X "range")(j:X.mg "range"=am)(h:DA X [a,b] f)(l:nk [a,b] X.env=[(false,eval a X.env),(false,eval b X.env)]:=by rfl)(d:nk [b] X.env=[(false,eval b X.env)]:=by rfl) :
  cO X tg (.Call (.Name "range" p) [a,b] [] pos) (sF f):=by
 obtain⟨t,m,q⟩:=h;refine⟨_,OO i j m l d,λo s Z σ H Hi items Z' R c S k=>?_⟩;obtain⟨ds,Z1,u,c⟩:=oB c;dsimp only at c;refine q o s Z σ H Hi ds Z1 _ u S λvs H' e x s' r=>?_;split at c
 ·split at c
  ·rename_i lo n y;obtain⟨rfl,rfl⟩:=sP c;obtain⟨v,r1,rfl,z,w,r2,rfl,g,A⟩:=r;subst z;subst g;subst A;exact⟨lo,n,ρ,y,k _ H' e x s' Ga⟩
  exact nO c
 exact nO c
end
noncomputable def forLoop(g:GF)(fb:SF):List Dat->SF
 | [],Z=>al (.next Z)
 | x::xs,Z=>(g x Z).bind λZ1=>(fb Z1).bind λo=>match o with
  | .next Z2=>forLoop g fb xs Z2
  | .cont Z2=>forLoop g fb xs Z2
  | .brk Z2=>al (.next Z2)
  | .ret r Z2=>al (.ret r Z2)
  | .exc _ _=>am
def oG(fi:IF)(g:GF)(fb:SF):SF:=λZ=>(fi Z).bind λp=>forLoop g fb p.1 p.2
section
variable{X:Cx}{pos:H9}{P:kH}{w:pe}{K:ft}{mg:e6->Option cA}{base:ph}{H0:Hp×Hp}{ps:Nat->Option dn}{σ:St}{psB:Nat->Option dn}{a b:hH}{ta tb:TE}{rest:List hH}{pins:List (dn×Th)}{H Hi:Hp}{s:ey}{Z:DS}{i:Nat}{io:Bool}{c c':Dat}{p:dn}{apos:H9}
theorem Te (W:ZN (k5 X.prog X.w) X.A X.env X.xe)(Y:X.calm=bi)(O:cO X M iter fi)(hg:DG X M g)(hb:gh X body fb)(hs:∀x,ti iter X.env x=pure x:=by intro _;rfl):cg X (.For M iter body [] pos) (oG fi g fb):=by
 obtain⟨wi,pi,qi⟩:=O;obtain⟨tg',pg,qg⟩:=hg;obtain⟨tb,pb,qb⟩:=hb;refine⟨_,sQ W Y pi pg pb hs,λH0 ps Z σ H Hi o D e S k=>?_⟩;obtain⟨items,Z1,e1,e⟩:=oB e;refine qi H0 ps Z σ H Hi items Z1 _ e1 S λJ H1 u S1 N jw=>?_
 refine⟨λi m σ' H'=>m=items.length-i/\i<=items.length/\∃Z' h,SR X.K H0 ps Z' σ' H' h/\ag u h/\forLoop g fb (items.drop i) Z'=al o,
  ⟨items.length,⋯,pd _,Z1,u,S1,ag.refl _,by simpa using e⟩,?_⟩
 rintro i m σ' H' ⟨rfl,O,Z',h,F,s',f⟩;have G:=jw i H'<|s'.trans F.sub;by_cases I:i<items.length
 ·have Q:=cn I;rw[aaK I] at f;obtain⟨Z2,e2,f⟩:=oA f;obtain⟨R,e3,f⟩:=oA f;refine τ ⟨(G.1 _ Q).1,λz T=>∃Z3 B,SR X.K H0 ps Z3 z T B/\ag u B/\forLoop g fb (items.drop<|i+1) Z3=al o,λz T ⟨Z3,B,S3,s3,f3⟩=>⟨items.length-(i+1),⋯,ρ,I,Z3,B,S3,s3,f3⟩,λx E y=>?_⟩;obtain⟨d,U,V,rx⟩:∃d,SR X.K H0 ps Z' σ' E d/\ag h d/\Rep X.K d items[i] x:=by
   rcases (G.1 _ Q).2 x E y with⟨rfl,r⟩|⟨p,ob,n,rfl,r⟩
   ·exact⟨h,F,ag.refl _,Rep.mono s' r⟩
   obtain⟨a,b⟩:=F.laid n;exact⟨_,a,b,r h s'<|F.cX n⟩
  refine qg H0 ps Z' σ' E d _ Z2 x _ e2 U rx λz S2=>?_;apply qb H0 ps Z2 z E d R _ e3 S2;have sm:=s'.trans V;cases R with
  | next Z3=>exact λl L j q t=>⟨Z3,j,q,sm.trans t,f⟩
  | cont Z3=>exact λl L j q t=>⟨Z3,j,q,sm.trans t,f⟩
  | brk Z3=>obtain rfl:=sO f;exact λl L j q t=>k l L j q ((N.trans sm).trans t)
  | ret r Z3=>obtain rfl:=sO f;exact λv l L j q t rr=>k v l L j q ((N.trans sm).trans t) rr
  | exc C Z3=>exact nO f
 have ei:i=items.length:=by lia
 subst ei;rw[Z9] at f;obtain rfl:=sO f;exact ι ⟨G.2<|fj _,k σ' H' h F<|N.trans s'⟩
noncomputable def g9(c:BF)(fb:SF):Nat->SF
 | 0,_=>am
 | n+1,Z=>(c Z).bind λp=>if p.1=bi then (fb p.2).bind (λo=>match o with
   | .next Z2=>g9 c fb n Z2
   | .cont Z2=>g9 c fb n Z2
   | .brk Z2=>al (.next Z2)
   | .ret r Z2=>al (.ret r Z2)
   | .exc _ _=>am) else al (.next p.2)
theorem Py{c:hH}{body:List Xs}{fc:BF}{fb:SF}(n:Nat)(G:ZN (k5 X.prog X.w) X.A X.env X.xe)(I:DT X c fc)(J:gh X body fb):cg X (.While c body [] pos) (g9 fc fb n):=by
 obtain⟨tc,L,M⟩:=I;obtain⟨tb,N,O⟩:=J;refine⟨_,J3 G L N,λH0 ps Z σ H Hi o D e S k=>?_⟩;refine⟨λm σ' H'=>∃Z' l,SR X.K H0 ps Z' σ' H' l/\ag Hi l/\g9 fc fb m Z'=al o,⟨n,Z,Hi,S,ag.refl _,e⟩,?_⟩;rintro m σ' H' ⟨Z',l,Q,s',d⟩;cases m with
 | zero=>exact nO d
 | succ m =>
  obtain⟨b,Z1,R,d⟩:=oB d;refine M H0 ps Z' σ' H' l b Z1 _ R Q λy t z B=>?_;cases b with
  | false=>obtain rfl:=sO d;exact k σ' y t z (s'.trans B)
  | true =>
   have d:((fb Z1).bind λo=>match o with
    | .next Z2=>g9 fc fb m Z2
    | .cont Z2=>g9 fc fb m Z2
    | .brk Z2=>al (.next Z2)
    | .ret r Z2=>al (.ret r Z2)
    | .exc _ _=>am)=al o:=d
   refine⟨λx E=>∃Z3 q,SR X.K H0 ps Z3 x E q/\ag Hi q/\g9 fc fb m Z3=al o,λx E ⟨Z3,q,T,U,V⟩=>⟨m,Y0 _,Z3,q,T,U,V⟩,?_⟩;obtain⟨F,W,d⟩:=oA d;apply O H0 ps Z1 σ' y t F _ W z;have sm:=s'.trans B;cases F with
   | next Z3=>exact λg u f h j=>⟨Z3,f,h,sm.trans j,d⟩
   | cont Z3=>exact λg u f h j=>⟨Z3,f,h,sm.trans j,d⟩
   | brk Z3=>obtain rfl:=sO d;exact λg u f h j=>k g u f h (sm.trans j)
   | ret r Z3=>obtain rfl:=sO d;exact λv g u f h j Y=>k v g u f h (sm.trans j) Y
   | exc C Z3=>exact nO d
noncomputable def lJ:AF:=λZ=>al ([],Z)
noncomputable def fO(f:DF)(g:AF):AF:=λZ=>(f Z).bind λp=>(g p.2).map λq=>(p.1::q.1,q.2)
noncomputable def uj(f:AF):EF:=λZ=>(f Z).bind λp=>if p.1.length<=dk then al (.O<|.L p.1,p.2) else am
noncomputable def ud(f:AF):DF:=λZ=>(f Z).bind λp=>if p.1.length<=dk then al (.U p.1,p.2) else am
def Qj:DA X [] lJ:=⟨_,il,λH0 ps Z σ H Hi ds Z' Q e S k=>by obtain⟨rfl,rfl⟩:=sP e;exact k [] H Hi S (ag.refl _) ρ⟩
def Me (o:DD X e f)(q:DA X h g)(r:bN X e h:=by rfl):DA X (e::h) (fO f g):=by obtain⟨t1,t,u⟩:=o;obtain⟨t2,x,y⟩:=q;refine⟨_,gw t x r,λH0 ps Z σ H Hi ds Z' Q e S k=>?_⟩;obtain⟨d,Z1,z,e⟩:=oB e;obtain⟨j,Z2,A,e⟩:=oN e;obtain⟨rfl,rfl⟩:=sP e;refine u H0 ps Z σ H Hi d Z1 _ z S λv B l C D E=>?_;exact y H0 ps Z1 σ B l j _ _ A C λvs F m G n I=>k (v::vs) F m G (D.trans n) ⟨v,vs,ρ,Rep.mono n E,I⟩
def NM (h:DA X j f):DE X (.List j pos) (uj f):=by
 obtain⟨t,p,q⟩:=h;refine⟨_,BN p,λH0 ps Z σ H Hi r Z' Q e S k=>?_⟩;obtain⟨ds,Z1,n,e⟩:=oB e;split at e
 ·rename_i o;obtain⟨rfl,rfl⟩:=sP e;refine q H0 ps Z σ H Hi ds _ _ n S λvs H1 l d u m=>⟨by rw[m.length];exact o,λp g=>?_⟩;exact k (.ref p) _ l (d.made g) u ⟨p,ρ,⟨_,aT,m,d.cX g⟩,(d.bB g).2,(d.bB g).1,d.dO g⟩
 exact nO e
def MR {m}(h:DA X g f):DD X (.Tuple g m pos) (ud f):=by
 obtain⟨t,p,q⟩:=h;refine⟨_,xZ p,λH0 ps Z σ H Hi d Z' Q e S k=>?_⟩;obtain⟨ds,Z1,n,e⟩:=oB e;split at e
 ·rename_i r;obtain⟨rfl,rfl⟩:=sP e;refine q H0 ps Z σ H Hi ds _ _ n S λvs H1 Hi1 u v j=>⟨by rw[j.length];exact r,λp x=>?_⟩;obtain⟨y,l⟩:=u.laid x;exact k (.ref p) _ _ y (v.trans l) ⟨p,vs,ρ,aS.of aT,aw.mono l j⟩
 exact nO e
abbrev a8:=List Dat->Option Res
def RC(K:ft)(H H' e:Hp)(v:V):Res->Prop
 | .D d=>Rep K e d v
 | .O c=>∃p,v=.ref p/\cx K H' e p c/\H p=am
def aI(K:ft)(fn:a8):Sp:=λvs H Q _=>∃Hi ds r,ag Hi H/\aw K Hi ds vs/\fn ds=al r /\
 ∀v H' d,ag H H'->ag Hi d->ag d H'->(∀p o,d p=al o->jD Hi H p o)->RC K H H' d v r->Q v H'
abbrev cz:=Dat->List Dat->Option (Res×Dat)
def dy(K:ft)(j:Nat)(fn:cz):Sp:=λvs H Q _=>∃Hi p c ds r c',ag Hi H/\vs[j]?=al (.ref p)/\cx K H Hi p c/\aw K Hi ds (vs.eraseIdx j)/\fn c ds=al (r,c') /\
 ∀v H' d,(∀b o,H b=al o->b≠p->H' b=al o)->ag Hi d->ag d H'->(∀p o,d p=al o->jD Hi H p o)->cx K H' d p c'->RC K H H' d v r->Q v H'
theorem SR.after (S:SR K H0 ps Z σ H Hi)(s:ag H H')(j:ag Hi f)(k:ag f H')(nw:∀p o,f p=al o->jD Hi H p o)(m:RC K H H' f v r):SR K H0 ps Z σ H' f/\RR K H0 ps Z σ H' f v r:=by
 have O:∀{q:dn}{c:Dat},cx K H Hi q c->cx K H' f q c:=λ{q c} h=>by
  obtain⟨⟨o,e⟩,n⟩:=h.some;apply h.keeps ((s q o e).trans e.symm) j;cases z:f q with
  | none=>rfl
  | some u=>rcases nw q u z with w|w|⟨vs,w⟩;simp_all;simp_all;subst w;have:=k _ _ z;rw[s q o e] at this;obtain rfl:=sO this;exact (h.nt e).elim
 refine⟨⟨k,λb o e n=>s b o<|S.keep b o e n,λp l z=>?_,λi d e=>?_,λi c e=>?_,λi c e=>?_,S.ne,S.len,λp o e=>?_⟩,?_⟩
 ·cases e:H p with
  | none=>exact S.dB p l e
  | some o=>rw[s p o e] at z;contradiction
 ·obtain⟨w,a,b⟩:=S.D i d e;exact⟨w,a,Rep.mono j b⟩
 ·obtain⟨q,a,b,g,t⟩:=S.O i c e;exact⟨q,a,O b,g,t⟩
 ·obtain⟨q,a,b,g⟩:=S.io i c e;exact⟨q,a,O b,g⟩
 ·rcases nw p o e with z|z|z
  ·exact S.nw p o z
  ·exact τ<|ι (S.bB z).1
  exact τ<|τ z
 cases r with
 | D d=>exact m
 | O c=>obtain⟨p,e,o,n⟩:=m;exact⟨p,e,o,(S.bB n).2,(S.bB n).1,S.dO n⟩
noncomputable def cb(fn:a8)(fa:AF):EF:=λZ=>(fa Z).bind λp=>(fn p.1).map λr=>(r,p.2)
structure xy (X:Cx) (x:e6) (sp:Sp):Prop where
 gl:Gl X x
 is:∃(CX:jP) (k:Nat) (f:dn) (fd:kq) (pn:List e6),br X.prog X.w X.K X.mg X.base CX k f fd pn sp/\bY k X.A/\X.mg x=al (.ref f)/\aad X.K (.ref f)=bi/\Binds X.K fd pn []/\ve CX X E0
def Su{x:e6}{e:hH}{g:List hH}{fn:a8}{fa:AF}{p:H9}(h:xy X x (aI X.K fn))(y:DA X (e::g) fa)(j:bD x:=by decide)
 (z:bN X e g:=by rfl)(l:(XG pos<|nk g X.env).any (·.1)=bn:=by rfl):DE X (.Call (.Name x p) (e::g) [] pos) (cb fn fa):=by
 obtain⟨A,CX,k,f,fd,pn,F,B,C,D,E,hx⟩:=h;obtain⟨t,G,q⟩:=y;refine⟨_,Ah F B A C D E .nil hx G j z l,λH0 ps Z σ H Hi r Z' Q d S k=>?_⟩;obtain⟨ds,Z1,I,d⟩:=oB d;obtain⟨r2,J,d⟩:=oM d;obtain⟨rfl,rfl⟩:=sP d;refine q H0 ps Z σ H Hi ds _ _ I S λvs H1 m n L M=>?_;refine⟨m,ds,_,n.sub,by rw[sb];exact M,J,λv N o O u R T U=>?_⟩;obtain⟨V,W⟩:=n.after O u R T U;exact k v N o V (L.trans u) W
noncomputable def iL(n:Nat)(ds:List Dat):DS:=ds.map Slot.D++C' (n-ds.length) .no
def jj(n:Nat)(f:SF):a8:=λds=>(f<|iL n ds).bind λo=>match o with
 | .next _=>al (.D .aU)
 | .ret r _=>al r
 | _=>am
theorem yM{K:ft}{N:List e6}{vs:List V}{ds:List Dat}{H Hi:Hp}(s:ag Hi H)(r:aw K Hi ds vs):SR K (H,Hi) (fun _=>am) (iL N.length ds) (start N vs) H Hi:=by
 have hl:=r.length;have f:∀{i:Nat}{s:Slot},(iL N.length ds)[i]?=al s->(∃d,s=.D d/\ds[i]?=al d)\/s=.no:=fun {i s} h=>by
  unfold iL at h;by_cases m:i<ds.length
  ·rw[hG (by simpa using m),c6] at h;simp_all
  rw[hE (by simpa using m)] at h;rw[YY] at h;split at h
  ·obtain rfl:=sO h;exact τ ρ
  exact nO h
 refine⟨s,fun b o e _=>e,fun p l=>?_,fun i d e=>?_,fun i c e=>?_,fun i c e=>?_,fun i j c c' p k h2=>?_,?_,fun p o e=>ι e⟩
 ·obtain⟨_,z⟩:=l;exact nO z
 ·rcases f e with⟨d',g,h⟩|g
  ·cases g;obtain⟨v,a,b⟩:=r.get h;refine⟨v,?_,b⟩;unfold start;rw[hG (by simpa using (cm.1 a).1),c6,a];rfl
  contradiction
 ·rcases f e with⟨d',g,h⟩|g<;>contradiction
 ·rcases f e with⟨d',g,h⟩|g<;>contradiction
 ·rcases k with k|k<;>(rcases f k with⟨d',g,h⟩|g<;>contradiction)
 simp_all [iL,start]
theorem JO{x m:e6}{st:Xs}{f:dn}{u:kq}{N ps:List e6}{k:Nat}{fn:a8}{fb:SF}(F:bz K x m st f u)(S:bK N ps (aP st))(n:∀ds r,fn ds=al r->ds.length=ps.length)
 (D:∀(cdv:cA) (A:qp) (outer:List ZO) (s:ey) (H:Hp) (E:XK),bY k (A.deeper<|Xc m (aP st) s.heap.objs.size f cdv)->gh (iE bj P w K mg base N m (aP st) f cdv A outer s H E).jA (fN st) fb)
 (G:∀ds r,fn ds=al r->jj N.length fb ds=al r):br P w K mg base bj (k+1) f u ps (aI K fn):=by
 refine F.ok S (λvs H Q E h=>?_)<|λcdv A outer s H vs Q E I h=>?_
 ·obtain⟨Hi,ds,r,s,rs,e,_⟩:=h;rw[rs.length];exact n ds r e
 obtain⟨Hi,ds,r,sm,rs,e,y⟩:=h;obtain⟨t,p,q⟩:=D cdv A outer s H E I;refine⟨t,p,?_⟩;have l:=G ds r e;obtain⟨o,J,l⟩:=oA l;have nw:∀{Z:DS}{σ':St}{H' g:Hp},SR K (H,Hi) (λ_=>am) Z σ' H' g->∀p o,g p=al o->jD Hi H p o:=λj p o e=>j.nw p o e;have kp:∀{Z:DS}{σ':St}{H' g:Hp},SR K (H,Hi) (λ_=>am) Z σ' H' g->ag H H':=λj b o e=>j.keep b o e<|λ⟨_,z⟩=>by exact nO z
 apply q (H,Hi) (λ_=>am) (iL N.length ds) (start N vs) H Hi o _ J<|yM sm rs;cases o with
 | next Z=>obtain rfl:=sO l;exact fun σ' H' g j s'=>y .aU H' g (kp j) s' j.sub (nw j) ρ
 | ret r' Z =>
  cases l;refine λv σ' H' g j s' B=>y v H' g (kp j) s' j.sub (nw j) ?_;cases r with
  | D d=>exact B
  | O c=>obtain⟨p,L,o,np,M,_⟩:=B;exact⟨p,L,o,M⟩
 | brk Z=>exact nO l
 | cont Z=>exact nO l
 | exc C Z=>exact nO l
def kO(K:ft)(f:DF):TE:=fun σ H Q=>∃H0 ps Z Hi d Z',f Z=al (d,Z')/\SR K H0 ps Z σ H Hi/\∀v H' e,SR K H0 ps Z' σ H' e->ag Hi e->Rep K e d v->Q v H'
def lI(K:ft)(f:BF):TT:=fun σ H Q=>∃H0 ps Z Hi d Z',f Z=al (d,Z')/\SR K H0 ps Z σ H Hi/\∀H' e,SR K H0 ps Z' σ H' e->ag Hi e->Q d H'
def kP(K:ft)(g:GF):TG:=λv σ H Q=>∃H0 ps Z Hi d Z',g d Z=al Z'/\SR K H0 ps Z σ H Hi/\Rep K Hi d v/\∀σ',SR K H0 ps Z' σ' H Hi->Q σ' H
def DD.kD (h:DD X e f):PE X e (kO X.K f):=by obtain⟨t,p,q⟩:=h;rintro pins s σ H Q I ⟨H0,ps,Z,Hi,d,Z',g,S,k⟩;exact p pins s σ H Q I<|q H0 ps Z σ H Hi d Z' Q g S k
def DG.kD (h:DG X e g):PG X e (kP X.K g):=by obtain⟨t,p,q⟩:=h;rintro pins s σ H v u Q I r ⟨H0,ps,Z,Hi,d,Z',f,S,j,k⟩;exact p pins s σ H v u Q I r<|q H0 ps Z σ H Hi d Z' v Q f S j k
def kK(X:Cx)(ifs:List hH)(f:BF):Prop:=PF X ifs<|lI X.K f
def Jd:kK X [] (λZ=>al (true,Z)):=by rintro pins s σ H Q I ⟨H0,ps,Z,Hi,d,Z',e,S,k⟩;obtain⟨rfl,rfl⟩:=sP e;exact C6 pins s σ H Q I<|k H Hi S<|ag.refl _
def MQ{X:Cx}{c:hH}{f:BF}(h:DT X c f):kK X [c] f:=by obtain⟨t,p,q⟩:=h;rintro pins s σ H Q I ⟨H0,ps,Z,Hi,d,Z',e,S,k⟩;exact OV p pins s σ H Q I<|q H0 ps Z σ H Hi d Z' Q e S k
noncomputable def noOwn(Z:DS):Bool:=Z.all λs=>match s with|.O _=>false|_=>true
def HI (h:noOwn Z=bi):Z[i]?≠al (.O c):=λe=>by have:=mA.1 h _<|eH e;contradiction
noncomputable def aV(d:Option (Nat×Nat)):List (Option Nat)->DS->DS
 | [],Z=>Z
 | o::r,Z=>aV d r (match o with
  | some j=>if d.map adw=al j then Z else (match Z[j]? with|some (.O c)=>Z.set j (.D c)|_=>Z)
  | none=>Z)
noncomputable def b8(caps:List (Option Nat))(Z:DS):DS:=caps.map λo=>match o with
 | some j=>(match Z[j]? with|some (.D d)=>.D d|_=>.no)
 | none=>.no
noncomputable def compLoop(g:GF)(fc:BF)(fe:DF):List Dat->List Dat->DS->Option (List Dat×DS)
 | [],d,Z=>al (d,Z)
 | x::xs,d,Z=>(g x Z).bind λZ1=>(fc Z1).bind λp=>if p.1=bi then (fe p.2).bind λq=>if d.length<dk/\noOwn q.2=bi then compLoop g fc fe xs (d++[q.1]) q.2 else am
   else if noOwn p.2=bi then compLoop g fc fe xs d p.2 else am
def dJ(caps:List (Option Nat))(d:Option (Nat×Nat))(fi:IF)(g:GF)(fc:BF)(fe:DF):EF:=λZ=>(fi Z).bind λp =>
 let Z1:=aV d caps p.2
 match d with
 | none=>(compLoop g fc fe p.1 []<|b8 caps Z1).map λq=>(.O<|.L q.1,Z1)
 | some (k,j)=>if caps[k]?=al (al j) then (match Z1[j]? with
  | some (.O c)=>(compLoop g fc fe p.1 []<|(b8 caps Z1).set k (.io c)).bind λq=>(match q.2[k]? with|some (.io c')=>al (.O<|.L q.1,Z1.set j<|.O c')|_=>am)
  | some (.io c)=>(compLoop g fc fe p.1 []<|(b8 caps Z1).set k (.io c)).bind λq=>(match q.2[k]? with|some (.io c')=>al (.O<|.L q.1,Z1.set j<|.io c')|_=>am)
  | _=>am) else am
theorem qy(d):∀(caps:List (Option Nat)) {Z:DS}{H Hi:Hp},SR K H0 ps Z σ H Hi->∃f,SR K H0 ps (aV d caps Z) σ H f/\ag Hi f
 | [],_,_,Hi,S=>⟨Hi,S,ag.refl _⟩
 | none::r,_,_,_,S=>qy d r S
 | some j::r,Z,H,Hi,S=>by
  unfold aV;dsimp only;by_cases hl:d.map adw=al j
  ·rw[if_pos hl];exact qy d r S
  rw[if_neg hl];split
  ·rename_i c e;obtain⟨Hi1,v,_,h,k,_⟩:=S.kB e;obtain⟨g,l,m⟩:=qy d r h;exact⟨g,l,k.trans m⟩
  exact qy d r S
def SR.rebase (S:SR K H0 ps Z σ H Hi)(n:noOwn Z=bi):SR K (H,Hi) ps Z σ H Hi :=
 ⟨S.sub,λb o e _=>e,S.dB,S.D,λi c e=>absurd e<|HI n,S.io,S.ne,S.len,λp o e=>ι e⟩
theorem GA{caps:List (Option Nat)}{Z:DS}{k:Nat}{d:Dat}(h:(b8 caps Z)[k]?=al (.D d)):∃j:Nat,caps[k]?=al (al j)/\Z[j]?=al (.D d):=by
 unfold b8 at h;rw[c6] at h;cases e:caps[k]? with
 | none=>rw[e] at h;exact nO h
 | some o =>
  rw[e] at h;cases o with
  | none=>cases h
  | some j=>refine⟨j,ρ,?_⟩;simp at h;split at h;simp_all;contradiction
theorem mU{caps:List (Option Nat)}{Z:DS}{k:Nat}{c:Dat}:(b8 caps Z)[k]?≠al (.O c)/\(b8 caps Z)[k]?≠al (.io c):=by
 delta b8;rw[c6];cases e:caps[k]? with
 | none=>simp
 | some o =>
  cases o with
  | none=>simp
  | some j =>
   simp only[Rr];constructor
   all_goals
    intro z;have z:=Option.some.inj z;split at z<;>contradiction
def yU{caps:List (Option Nat)}{k j:Nat}{v:V}(h:caps[k]?=al (al j))(e:σ[j]?=al (al v)):(eM caps σ)[k]?=al (al v):=by simp_all [eM]
def KS (S:SR K H0 ps Z σ H Hi):SR K (H,Hi) (λ_=>am) (b8 caps Z) (eM caps σ) H Hi:=by
 refine⟨S.sub,λb o e _=>e,λp l=>?_,λk d e=>?_,λk c e=>absurd e mU.1,λk c e=>absurd e mU.2,λk k' c c' p h=>?_,?_,λp o e=>ι e⟩
 ·obtain⟨_,z⟩:=l;exact nO z
 ·obtain⟨j,f,g⟩:=GA e;obtain⟨v,a,b⟩:=S.D j d g;exact⟨v,yU f a,b⟩
 ·rcases h with h|h
  ·exact absurd h mU.1
  exact absurd h mU.2
 simp[b8,eM]
theorem Ft {Qf:Hp->Prop}(S0:SR K (t,h) psB O U t h)(n0:noOwn O=bi)(Q:t D=am)(jw:JW K J items h)(ef:compLoop g fc fe items [] O=al (G,Ze))(UO:∀σ' H' d vs,SR K (H',d) psB Ze σ' H' d->ag h d->(∀b o,t b=al o->¬gx psB b->H' b=al o)->(∀p o,d p=al o->jD h t p o)->H' D=al (.L vs)->aw K d G vs->d D=am->Qf H') :
  ∃W:Nat->Nat->St->Hp->Prop,(∃m,W 0 m U<|upd t D<|.L [])/\∀i m σ' H',W i m σ' H'->(J.stop i H'/\Qf H')\/(J.go i H'/\∀x A,J.mE i H' x A->kP K g x σ' A λB H2=>lI K fc B H2 λb H3 =>
   if b=bi then kO K fe B H3 λy C=>∃ys,C D=al (.L ys)/\ys.length<dk/\∃I,I<m/\W (i+1) I B (upd C D<|.L<|ys++[y])
   else ∃I,I<m/\W (i+1) I B H3):=by
 have nl:¬gx psB D:=λl=>S0.dB D l Q;have Y:=S0.cX Q;have L:∀{Z:DS}{σ:St}{H Hi:Hp}{H0:Hp×Hp}(vs:List V),SR K H0 psB Z σ H Hi->noOwn Z=bi->Hi D=am->SR K (upd H D<|.L vs,Hi) psB Z σ (upd H D<|.L vs) Hi:=λ{Z σ H Hi H0} vs S n hd=>by
  refine⟨vV S.sub hd,λb o e _=>e,λp l=>?_,S.D,λi c e=>absurd e<|HI n,λi c e=>?_,S.ne,S.len,λp o e=>ι e⟩
  ·have hp:p≠D:=λz=>nl (by rw[<-z];exact l);rw[ax hp];exact S.dB p l
  obtain⟨q,a,b,c1⟩:=S.io i c e;have hq:q≠D:=λz=>nl (by rw[<-z];exact⟨i,c1⟩);exact⟨q,a,b.keeps (ax hq) (ag.refl _) b.some.2,c1⟩
 refine⟨λi m σ' H'=>m=items.length-i/\i<=items.length/\∃Z d E vs,SR K (H',d) psB Z σ' H' d/\noOwn Z=bi/\ag h d/\(∀b o,t b=al o->¬gx psB b->H' b=al o)/\(∀p o,d p=al o->jD h t p o) /\
   H' D=al (.L vs)/\aw K d E vs/\d D=am/\compLoop g fc fe (items.drop i) E Z=al (G,Ze),
  ⟨items.length,⋯,pd _,O,h,[],[],L [] S0 n0 Y,n0,ag.refl _,λb o e _=>by rw[ax (dq e Q)];exact e,λp o e=>ι e,aT,ρ,Y,by simpa using ef⟩,?_⟩
 rintro i m σ' H' ⟨rfl,hi,Z,d,E,vs,S,n,sm,kb,nb,R,ra,hd,f⟩;have M:=jw i H'<|sm.trans S.sub;have base:∀{p:dn},H' p=am->t p=am:=λ{p} z=>by
  cases e:t p with
  | none=>rfl
  | some o =>
   by_cases l:gx psB p
   ·exact absurd z<|S.dB p l
   rw[kb p o e l] at z;contradiction
 by_cases F:i<items.length
 ·have eg:=cn F;rw[aaK F] at f;obtain⟨Z1,e2,f⟩:=oA f;obtain⟨b,Z2,e3,f⟩:=oB f;dsimp only at f;refine τ ⟨(M.1 _ eg).1,λx A y=>?_⟩;obtain⟨j,US,N,rx⟩:∃j,SR K (H',d) psB Z σ' A j/\ag d j/\Rep K j items[i] x:=by
   rcases (M.1 _ eg).2 x A y with⟨rfl,r⟩|⟨p,ob,nn,rfl,r⟩
   ·exact⟨d,S,ag.refl _,Rep.mono sm r⟩
   obtain⟨a,b⟩:=S.laid nn;exact⟨_,a,b,r d sm<|S.cX nn⟩
  refine⟨(H',d),psB,Z,j,_,Z1,e2,US,rx,λB S2=>?_⟩;refine⟨(H',d),psB,Z1,j,b,Z2,e3,S2,λH3 be S3 s3=>?_⟩;have kp:∀{Z4:DS}{UB:St}{C k:Hp},SR K (H',d) psB Z4 UB C k->C D=al (.L vs)/\k D=am/\(∀b o,t b=al o->¬gx psB b->C b=al o)/\(∀p o,k p=al o->jD h t p o):=λ{Z4 UB C k} u=>by
   refine⟨u.keep D _ R nl,?_,λb o e l=>u.keep b o (kb b o e l) l,λp o e=>?_⟩
   ·cases z:k D with
    | none=>rfl
    | some o =>
     rcases u.nw D o z with w|w|⟨ts,w⟩
     ·have w:d D=al o:=w;rw[hd] at w;exact nO w
     ·have w:H' D=am:=w;rw[R] at w;contradiction
     subst w;have t1:=u.sub _ _ z;rw[u.keep D _ R nl] at t1;cases t1
   rcases u.nw p o e with w|w|w
   ·exact nb p o w
   ·exact τ<|ι<|base w
   exact τ<|τ w
  cases b with
  | false =>
   simp only[yv,if_false] at f;split at f
   ·rename_i n2;obtain⟨a1,T,a3,a4⟩:=kp S3;exact⟨items.length-(i+1),⋯,ρ,F,Z2,be,E,vs,S3.rebase n2,n2,(sm.trans N).trans s3,a3,a4,a1,aw.mono (N.trans s3) ra,T,f⟩
   exact nO f
  | true =>
   obtain⟨yd,Z3,e4,f⟩:=oB f;split at f
   ·rename_i hz;refine⟨(H',d),psB,Z2,be,yd,Z3,e4,S3,λv C k u s4 ry=>?_⟩;obtain⟨a1,T,a3,a4⟩:=kp u;have sa:=(N.trans s3).trans s4;refine⟨vs,a1,by rw[ra.length];exact hz.1,items.length-(i+1),⋯,ρ,F,Z3,k,E++[yd],vs++[v],L _ u hz.2 T,hz.2,sm.trans sa,λb o e l=>?_,a4,aT,aw.append (aw.mono sa ra) ⟨v,[],ρ,ry,ρ⟩,T,f⟩;rw[ax (dq e Q)];exact a3 b o e l
   exact nO f
 have ei:i=items.length:=by lia
 subst ei;rw[Z9] at f;cases f;exact ι ⟨M.2<|fj _,UO σ' H' d vs S sm kb nb R ra hd⟩
theorem Dz:noOwn (b8 caps Z)=bi:=by
 delta noOwn;rw[mA];intro s d;obtain⟨k,e⟩:=uz d;cases s with
 | O c=>exact absurd e mU.1
 | _=>rfl
def FL (u:∀(H0:Hp×Hp) (ps:Nat->Option dn) (Z:DS) (σ:St) (H Hi:Hp) (items:List Dat) (Z':DS) (R:It->Hp->Prop),fi Z=al (items,Z')->SR X.K H0 ps Z σ H Hi->(∀J j h,SR X.K H0 ps Z' σ j h->ag Hi h->JW X.K J items h->R J j)->l σ H R)(H0)(ps)(Z)(σ)(H Hi)(r)(Z')(Q)(f:dJ caps am fi g fc fe Z=al (r,Z'))(S:SR X.K H0 ps Z σ H Hi)(k:∀v H' d,SR X.K H0 ps Z' σ H' d->ag Hi d->RR X.K H0 ps Z' σ H' d v r->Q v H'):sx (eM caps) l (kP X.K g) (lI X.K fc) (kO X.K fe) σ H Q:=by
 obtain⟨items,Z1,x,f⟩:=oB f;dsimp only at f;obtain⟨m,Ze,y,f⟩:=oN f;obtain⟨rfl,rfl⟩:=sP f;refine u H0 ps Z σ H Hi items Z1 _ x S λJ j h A B C=>?_;intro D n;obtain⟨Hi2,q,t⟩:=qy am caps A;refine Ft (KS q) Dz n (C.mono t) y fun σ' H' d vs E sm kb F G ra hd=>?_;have I:ag j H':=λb o e=>kb b o e<|λ⟨_,z⟩=>by exact nO z
 obtain⟨L,M⟩:=q.after (r:=.O<|.L m) I sm E.sub F ⟨D,ρ,⟨vs,G,ra,hd⟩,n⟩;exact k (.ref D) H' d L ((B.trans t).trans sm) M
def Pt (k:X.calm=bi)(B:iX X.env.scope scope)(j:gA X.N NB scope caps=bi)(l:cO X h iter fi)(m:∀(e:List (e6×dn)) (C:dn) (d:ey) (H:Hp) (f:List dn),DG (bT X NB scope e C d H f) h g)(n:∀(e:List (e6×dn)) (C:dn) (d:ey) (H:Hp) (f:List dn),kK (bT X NB scope e C d H f) ifs fc)(o:∀(e:List (e6×dn)) (C:dn) (d:ey) (H:Hp) (f:List dn),DD (bT X NB scope e C d H f) elt fe)(q:∀x,ti iter X.env x=pure x:=by intro _;rfl) :
  DE X (.ListComp elt [⟨h,iter,ifs,0⟩] scope pos) (dJ caps am fi g fc fe):=by
 obtain⟨wi,r,t⟩:=l;exact⟨_,F5 (tc:=lI X.K fc) k B j r (λe C d H f=>⟨(m e C d H f).kD,n e C d H f,(o e C d H f).kD⟩) q,FL t⟩
def Q5 (i:Nat)(u:X.N.Nodup)(n:X.N[i]?=al y)(z:Loc X.env.scope y)(A:X.fn y=bi\/X.env.scope.names.lookup y=some .local)(E:X.calm=bi)(B:iX X.env.scope scope)(m:gA X.N NB scope caps=bi)(F:cO X l iter fi)(G:∀(f:List (e6×dn)) (C:dn) (d:ey) (H:Hp) (h:List dn),DG (bT X NB scope f C d H h) l g)(I:∀(f:List (e6×dn)) (C:dn) (d:ey) (H:Hp) (h:List dn),kK (bT X NB scope f C d H h) ifs fc)(J:∀(f:List (e6×dn)) (C:dn) (d:ey) (H:Hp) (h:List dn),DD (bT X NB scope f C d H h) elt fe)(q:Fs (.ListComp elt [⟨l,iter,ifs,0⟩] scope pos) (al<|.Name y py) j.line X.env=pure true)(L:∀x,ti iter X.env x=pure x:=by intro _;rfl) :
  cg X (.Assign [.Name y py] (.ListComp elt [⟨l,iter,ifs,0⟩] scope pos) j) (gQ i<|dJ caps am fi g fc fe):=by
 obtain⟨wi,M,O⟩:=F;refine⟨_,Ax (g:=kP X.K g) (tc:=lI X.K fc) (te:=kO X.K fe) u n z E B m M (λf C d H h=>⟨(G f C d H h).kD,I f C d H h,(J f C d H h).kD⟩) q L A,λH0 ps Z σ H Hi o D e S k=>?_⟩;obtain⟨r,Z1,Q,e⟩:=oB e;obtain⟨Z2,R,e⟩:=oM e;obtain rfl:=sO e;exact FL O H0 ps Z σ H Hi r Z1 _ Q S λv H' t T s' U=>k _ H' t (T.put U R) s'
def PC(K:ft)(ta tb:TE):TE:=fun σ H Q=>ta σ H λx d=>∃c,qP K x d c/\if c=bi then Q x d else tb σ d Q
def JC(K:ft)(ta tb:TE):TE:=fun σ H Q=>ta σ H λx d=>∃c,qP K x d c/\if c=bi then tb σ d Q else Q x d
theorem Sg(k:PE X a ta)(l:PE X (.BoolOp .Or (b::rest) pos) tb):PE X (.BoolOp .Or (a::b::rest) pos) (PC X.K ta tb):=by
 refine λpins s σ H Q I h=>BoolOp_or (aD (k pins s σ H _ I h) λv m q=>?_);obtain⟨x,e,n,f,c,tc,g⟩:=q;refine aD (zr pins m σ e x v (λc' d=>c'=c/\d=e) n f ⟨c,tc,ρ,ρ⟩) λc' o h=>?_;obtain⟨d,j,q,r⟩:=h;subst q r;cases c' with
 | false=>exact l pins o σ d Q j g
 | true=>exact⟨x,d,j,f,g⟩
theorem J8(k:PE X a ta)(l:PE X (.BoolOp .And (b::rest) pos) tb):PE X (.BoolOp .And (a::b::rest) pos) (JC X.K ta tb):=by
 refine λpins s σ H Q I h=>BoolOp_and (aD (k pins s σ H _ I h) λv m q=>?_);obtain⟨x,e,n,f,c,tc,g⟩:=q;refine aD (zr pins m σ e x v (λc' d=>c'=c/\d=e) n f ⟨c,tc,ρ,ρ⟩) λc' o h=>?_;obtain⟨d,j,q,r⟩:=h;subst q r;cases c' with
 | true=>exact l pins o σ d Q j g
 | false=>exact⟨x,d,j,f,g⟩
noncomputable def sG:Dat->Option Bool
 | .aU=>al false
 | .bl b=>al b
 | .int i=>al (i != 0)
 | .str x=>if x.length<=dk then al ((x.length:Int) != 0) else am
 | .L ds=>al (!ds.isEmpty)
 | .U ds=>al (!ds.isEmpty)
 | .bV d=>al (!d.isEmpty)
 | .exc _=>am
 | .ins _ _=>am
 | .cw _=>am
 | .adr _=>am
 | .d9 _=>am
 | .aN _ _=>am
def zG{d e:Type}{xs:List d}{ys:List e}(h:xs.length=ys.length):xs.isEmpty=ys.isEmpty:=by
 cases xs<;>cases ys<;>first|rfl|(simp at h)
theorem bC.length:∀{d:List (e6×Dat)}{kvs:List (Key×V)},bC K H d kvs->kvs.length=d.length
 | [],_,h=>by rw[show _=[] from h];rfl
 | (_,_)::_,_,f=>by obtain⟨v,r,e,q,t⟩:=f;simp only[e,gi,gi,bC.length t]
theorem AL{K:ft}{H Hi:Hp}{d:Dat}{v:V}{c:Bool}(s:ag Hi H)(r:Rep K Hi d v)(e:sG d=al c):qP K v H c:=by
 cases d with
 | aU=>subst r;obtain rfl:=sO e;exact ρ
 | bl b=>subst r;obtain rfl:=sO e;exact ρ
 | int i=>subst r;obtain rfl:=sO e;exact ρ
 | str x =>
  subst r;have e:(if x.length<=dk then al ((x.length:Int) != 0) else am)=al c:=e;split at e
  ·rename_i g;obtain rfl:=sO e;exact⟨g,ρ⟩
  exact nO e
 | L ds=>obtain⟨p,vs,rfl,q,rs⟩:=r;cases e;exact ι ⟨vs,ι<|Rd.mono s q,by rw[zG rs.length]⟩
 | U ds=>obtain⟨p,vs,rfl,q,rs⟩:=r;cases e;exact τ (ι ⟨vs,aS.mono s q,by rw[zG rs.length]⟩)
 | bV f=>obtain⟨p,vs,rfl,q,rs⟩:=r;obtain rfl:=sO e;exact τ (τ ⟨vs,s _ _ q,by rw[zG (bC.length rs)]⟩)
 | exc C=>exact nO e
 | ins C fs=>exact nO e
 | cw ns=>exact nO e
 | adr p=>exact nO e
 | d9 f=>exact nO e
 | aN fz f=>exact nO e
def lK(f:DF):BF:=λZ=>(f Z).bind λp=>(sG p.1).map λc=>(c,p.2)
noncomputable def dP(f:EF):BF:=λZ=>(f Z).bind λp=>match p.1 with
 | .D (.bl b)=>al (b,p.2)
 | _=>am
noncomputable def sM(f:BF):BF:=λZ=>(f Z).map λp=>(!p.1,p.2)
noncomputable def k8(f g:BF):BF:=λZ=>(f Z).bind λp=>if p.1=bi then g p.2 else al (false,p.2)
noncomputable def o7(f g:BF):BF:=λZ=>(f Z).bind λp=>if p.1=bi then al (true,p.2) else g p.2
def mM(f g:DF):DF:=λZ=>(f Z).bind λp=>(sG p.1).bind λc=>if c=bi then g p.2 else al p
def oZ(f g:DF):DF:=λZ=>(f Z).bind λp=>(sG p.1).bind λc=>if c=bi then al p else g p.2
def QD (h:DD X a f)(m:∀g,abB a X.env g=(do let v <-g;aaT a.pos;XY [v] (truthy v))):DT X a (lK f):=by obtain⟨t,p,q⟩:=h;refine⟨_,NW p m,λH0 ps Z σ H Hi c Z' Q e S k=>?_⟩;obtain⟨d,Z1,n,e⟩:=oB e;obtain⟨c',o,e⟩:=oM e;obtain⟨rfl,rfl⟩:=sP e;exact q H0 ps Z σ H Hi d _ _ n S λv H' j l s' r=>⟨_,AL l.sub r o,k H' j l s'⟩
def l9 (j:aQ X (mu op) r)(l:fF X r d)(m:DD X a f)(n:DD X b g)(o:za op b=bn):DT X (.Compare a [op] [b] pos) (dP<|bW d f g):=by
 obtain⟨ta,q,t⟩:=m;obtain⟨tb,u,x⟩:=n;refine⟨_,AK j q u o,λH0 ps Z σ H Hi c Z' Q e S k=>?_⟩;obtain⟨rs,Z1,y,e⟩:=oB e;dsimp only at e;split at e
 ·obtain⟨rfl,rfl⟩:=sP e;exact yS l t x H0 ps Z σ H Hi _ _ _ y S λv H' h z s' A=>⟨_,A,k H' h z s'⟩
 exact nO e
def KA (h:DT X a f):DT X (.UnaryOp .Not a pos) (sM f):=by obtain⟨t,p,q⟩:=h;refine⟨_,(λe=>by exact λd s σ H Q I h=>isTrue_not<|e d s σ H (λc f=>Q (!c) f) I h) p,λH0 ps Z σ H Hi c Z' Q e S k=>?_⟩;obtain⟨d,Z1,j,e⟩:=oN e;obtain⟨rfl,rfl⟩:=sP e;exact q H0 ps Z σ H Hi d _ _ j S λH' g l s'=>k H' g l s'
def TY (h:DT X a f):DW X (.BoolOp .And [a] pos) f:=let ⟨t,p,q⟩:=h;⟨t,JK p,q⟩
def Ij (h:DT X a f):DW X (.BoolOp .Or [a] pos) f:=let ⟨t,p,q⟩:=h;⟨t,Tt p,q⟩
theorem MM (m:DT X a f)(n:DW X (.BoolOp .And (b::rest) pos) g):DW X (.BoolOp .And (a::b::rest) pos) (k8 f g):=by
 obtain⟨t1,o,q⟩:=m;obtain⟨t2,r,t⟩:=n;refine⟨_,LQ o r,λH0 ps Z σ H Hi c Z' Q e S k=>?_⟩;obtain⟨d,Z1,u,e⟩:=oB e;refine q H0 ps Z σ H Hi d Z1 _ u S λH' h j s'=>?_;cases d with
 | true=>exact t H0 ps Z1 σ H' h c Z' Q e j λv l x y=>k v l x (s'.trans y)
 | false=>obtain⟨rfl,rfl⟩:=sP e;exact k H' h j s'
theorem IT (m:DT X a f)(n:DW X (.BoolOp .Or (b::rest) pos) g):DW X (.BoolOp .Or (a::b::rest) pos) (o7 f g):=by
 obtain⟨t1,o,q⟩:=m;obtain⟨t2,r,t⟩:=n;refine⟨_,QV o r,λH0 ps Z σ H Hi c Z' Q e S k=>?_⟩;obtain⟨d,Z1,u,e⟩:=oB e;refine q H0 ps Z σ H Hi d Z1 _ u S λH' h j s'=>?_;cases d with
 | false=>exact t H0 ps Z1 σ H' h c Z' Q e j λv l x y=>k v l x (s'.trans y)
 | true=>obtain⟨rfl,rfl⟩:=sP e;exact k H' h j s'
def Mg{op}(h:DD X a f):DD X (.BoolOp op [a] pos) f:=let ⟨t,p,q⟩:=h;⟨t,QI p,q⟩
theorem Pm (m:DD X a f)(n:DD X (.BoolOp .And (b::rest) pos) g):DD X (.BoolOp .And (a::b::rest) pos) (mM f g):=by
 obtain⟨t1,o,q⟩:=m;obtain⟨t2,t,u⟩:=n;refine⟨_,J8 o t,λH0 ps Z σ H Hi c Z' Q e S k=>?_⟩;obtain⟨d,Z1,x,e⟩:=oB e;obtain⟨c',y,e⟩:=oA e;refine q H0 ps Z σ H Hi d Z1 _ x S λv H' h j s' r=>⟨c',AL j.sub r y,?_⟩;cases c' with
 | true=>exact u H0 ps Z1 σ H' h c Z' Q e j λz A l B C D=>k z A l B (s'.trans C) D
 | false=>obtain⟨rfl,rfl⟩:=sP e;exact k v H' h j s' r
theorem Nr (m:DD X a f)(n:DD X (.BoolOp .Or (b::rest) pos) g):DD X (.BoolOp .Or (a::b::rest) pos) (oZ f g):=by
 obtain⟨t1,o,q⟩:=m;obtain⟨t2,t,u⟩:=n;refine⟨_,Sg o t,λH0 ps Z σ H Hi c Z' Q e S k=>?_⟩;obtain⟨d,Z1,x,e⟩:=oB e;obtain⟨c',y,e⟩:=oA e;refine q H0 ps Z σ H Hi d Z1 _ x S λv H' h j s' r=>⟨c',AL j.sub r y,?_⟩;cases c' with
 | false=>exact u H0 ps Z1 σ H' h c Z' Q e j λz A l B C D=>k z A l B (s'.trans C) D
 | true=>obtain⟨rfl,rfl⟩:=sP e;exact k v H' h j s' r
mutual
noncomputable def toPy:Dat->PyData
 | .aU=>.none
 | .bl b=>.bool b
 | .int i=>.int i
 | .str x=>.str x
 | .U xs=>.tuple (cZ xs)
 | .L xs=>.list (cZ xs)
 | .bV _=>.dict []
 | .exc _=>.none
 | .ins _ _=>.none
 | .cw _=>.none
 | .adr _=>.none
 | .d9 _=>.none
 | .aN _ _=>.none
noncomputable def cZ:List Dat->List PyData
 | []=>[]
 | d::r=>toPy d::cZ r
end
mutual
/-- no dict within -/
noncomputable def gG:Dat->Bool
 | .U xs=>kj xs
 | .L xs=>kj xs
 | .bV _=>false
 | .exc _=>false
 | .ins _ _=>false
 | .cw _=>false
 | .adr _=>false
 | .d9 _=>false
 | .aN _ _=>false
 | _=>true
noncomputable def kj:List Dat->Bool
 | []=>true
 | d::r=>gG d&&kj r
end
mutual
theorem j3(I:Inv X pins σ H s)(sm:ag Hi H):∀{d:Dat}{v:V}{u:cA},gG d=bi->Rep X.K Hi d v->RelV v u->∃as,Reads s.heap u (toPy d) as
 | .aU,_,_,_,r,q=>by
  cases r
  cases q
  exact⟨_,.none⟩
 | .bl b,_,_,_,r,q=>by
  cases r
  cases q
  exact⟨_,.bool b⟩
 | .int i,_,_,_,r,q=>by
  cases r
  obtain⟨t,rfl⟩:=q
  exact⟨_,.int i t⟩
 | .str x,_,_,_,r,q=>by
  cases r
  obtain⟨t,rfl⟩:=q
  exact⟨_,.str x t⟩
 | .U ds,_,_,p,r,q=>by
  obtain⟨a,vs,rfl,f,rs⟩:=r
  cases q
  obtain⟨its,g,⟨o,e,j,n,k⟩,_⟩:=I.tuple<|aS.mono sm f
  obtain⟨as,h⟩:=vy I sm (show kj ds=bi from p) rs g
  exact⟨_,.tuple e j k (by simpa using h)⟩
 | .L ds,_,_,p,r,q=>by
  obtain⟨a,vs,rfl,f,rs⟩:=r
  cases q
  obtain⟨z,its,n,g,e⟩:=(Rd.mono sm f).ok I.ak
  obtain⟨as,h⟩:=vy I sm (show kj ds=bi from p) rs g
  exact⟨_,.list e rfl rfl (by simpa using h)⟩
 | .bV _,_,_,p,_,_=>by cases p
 | .exc _,_,_,p,_,_=>by cases p
 | .ins _ _,_,_,p,_,_=>by cases p
 | .cw _,_,_,p,_,_=>by cases p
 | .adr _,_,_,p,_,_=>by cases p
 | .d9 _,_,_,p,_,_=>by cases p
 | .aN _ _,_,_,p,_,_=>by cases p
theorem vy(I:Inv X pins σ H s)(sm:ag Hi H):∀{ds:List Dat}{vs:List V}{us:List cA},kj ds=bi->aw X.K Hi ds vs->aC vs us->∃as,ReadsAll s.heap us (cZ ds) as
 | [],_,_,_,r,q=>by
  cases (show _=[] from r)
  cases q
  exact⟨_,.nil⟩
 | d::ds,_,_,p,r,q=>by
  obtain⟨v,vr,rfl,l,m⟩:=r
  cases q with
  | cons y A =>
   have p:=kx.1 (show (gG d&&kj ds)=bi from p)
   obtain⟨as,e⟩:=j3 I sm p.1 l y
   obtain⟨bs,j⟩:=vy I sm p.2 m A
   exact⟨_,.cons e j⟩
end
def bJ(d:Dat):Bool:=gG d&&ZJ (toPy d)
def cY(d e:Dat):Bool:=Xq (toPy d)<|toPy e
noncomputable def Gg(neg:Bool):Dat->Dat->Option Res
 | .L (_::_),.L []=>al (.D<|.bl neg)
 | _,_=>am
def dR(neg:Bool):Dat->Dat->Option Res:=λd e=>if bJ d&&bJ e then al (.D<|.bl (if neg then !cY d e else cY d e)) else Gg neg d e
def Aj(K:ft)(neg:Bool):R2:=λx y H Q=>∃Hi d e,ag Hi H/\Rep K Hi d x/\Rep K Hi e y/\bJ d=bi/\bJ e=bi/\Q (.bl (if neg then !cY d e else cY d e)) H
def xt(neg:Bool):R2:=λx y H Q=>∃l b z d,x=.ref l/\y=.ref b/\Rd H l (.L (z::d))/\Rd H b (.L [])/\Q (.bl neg) H
def A9(K:ft)(neg:Bool):R2:=λx y H Q=>Aj K neg x y H Q\/xt neg x y H Q
def Ha{pins:List (dn×Th)}{σ:St}{H:Hp}{s:ey}(I:Inv X pins σ H s){l b:dn}{z:V}{h:List V}(j:Rd H l (.L (z::h)))(k:Rd H b (.L [])):∃f g:Array cA,s.heap.IsList l f/\s.heap.IsList b g/\(f.size != g.size)=bi:=by obtain⟨z1,its,n,r,e⟩:=j.ok I.ak;obtain⟨z2,d,m,o,q⟩:=k.ok I.ak;have u:=o.length;refine⟨its.toArray,d.toArray,⟨_,e,ρ,n,ρ⟩,⟨_,q,ρ,m,ρ⟩,?_⟩;simp only[gs,<-r.length,<-u];rfl
def Ef(d:X.A.units+64<zR):aQ X (mu .Eq) (A9 X.K false):=aQ.or ((λj=>by intro pins s σ H x y v u Q I rx k h;obtain⟨Hi,d,e,sm,l,m,f,g,q⟩:=h;have f:=kx.1 f;have g:=kx.1 g;obtain⟨as,n⟩:=j3 I sm f.1 l rx;obtain⟨bs,o⟩:=j3 I sm g.1 m k;exact eq_dataH n o f.2 g.2 j ⟨.bl<|cY d e,H,I,ρ,q⟩) d)<|(λhu=>by intro pins s σ H x y v u Q I rx d h;obtain⟨l,b,z,zs,rfl,rfl,e,f,q⟩:=h;subst rx;subst d;obtain⟨i1,i2,a,c,g⟩:=Ha I e f;exact adq a c g (by lia) _ _ _ _ ⟨.bl false,H,I,ρ,q⟩) d
def BS(d:X.A.units+64<zR):aQ X (mu .NotEq) (A9 X.K true):=aQ.or ((λj=>by intro pins s σ H x y v u Q I rx k h;obtain⟨Hi,d,e,sm,l,m,f,g,q⟩:=h;have f:=kx.1 f;have g:=kx.1 g;obtain⟨as,n⟩:=j3 I sm f.1 l rx;obtain⟨bs,o⟩:=j3 I sm g.1 m k;exact ne_dataH n o f.2 g.2 j ⟨.bl<|!cY d e,H,I,ρ,q⟩) d)<|(λhu=>by intro pins s σ H x y v u Q I rx d h;obtain⟨l,b,z,zs,rfl,rfl,e,f,q⟩:=h;subst rx;subst d;obtain⟨i1,i2,a,c,g⟩:=Ha I e f;exact acX a c g (by lia) _ _ _ _ ⟨.bl true,H,I,ρ,q⟩) d
def wJ:fF X (A9 X.K neg) (dR neg):=by
 intro H0 ps Z σ H Hi x y d d' o Q e S rx g k;delta dR at e;split at e
 ·rename_i f;have f:=kx.1 f;obtain rfl:=sO e;exact ι ⟨Hi,d,d',S.sub,rx,g,f.1,f.2,k _ H Hi S (ag.refl _) ρ⟩
 delta Gg at e;split at e
 ·obtain rfl:=sO e;obtain⟨p,vs,rfl,h,j⟩:=rx;obtain⟨l,m,rfl,n,q⟩:=g;obtain⟨z,r,rfl,_,_⟩:=j;cases (q);exact τ ⟨p,l,z,r,ρ,ρ,Rd.mono S.sub h,Rd.mono S.sub n,k _ H Hi S (ag.refl _) ρ⟩
 exact nO e
def inD(d:Dat)(ds:List Dat):Bool:=(cZ ds).any λy=>Xq y<|toPy d
def A8(neg:Bool):Dat->Dat->Option Res
 | d,.L ds=>if bJ d&&bJ (.L ds) then al (.D<|.bl (if neg then !inD d ds else inD d ds)) else am
 | d,.U ds=>if bJ d&&bJ (.U ds) then al (.D<|.bl (if neg then !inD d ds else inD d ds)) else am
 | .str x,.str y=>al (.D<|.bl (if neg then !(!(HT y x 0 y.length 1).isEmpty) else !(HT y x 0 y.length 1).isEmpty))
 | _,_=>am
def yE(K:ft)(neg:Bool):R2:=λx y H Q=>∃Hi d ds c,(c=.L ds\/c=.U ds)/\ag Hi H/\Rep K Hi d x/\Rep K Hi c y/\bJ d=bi/\bJ c=bi/\Q (.bl (if neg then !inD d ds else inD d ds)) H
def pP(K:ft)(neg:Bool):R2:=λx y H Q=>yE K neg x y H Q\/(λx y H Q=>∃i j,x=.str i/\y=.str j/\Q (.bl (if neg then !(!(HT j i 0 j.length 1).isEmpty) else !(HT j i 0 j.length 1).isEmpty)) H) x y H Q
theorem OK(d:X.A.units+65<zR):aQ X (mu .In) (pP X.K false):=aQ.or ((fun g=>by
  intro pins s σ H x y v u Q I rx l h;obtain⟨Hi,d,ds,c,m,sm,n,o,e,f,q⟩:=h;have e:=kx.1 e;have f:=kx.1 f;obtain⟨as,j⟩:=j3 I sm e.1 n rx;obtain⟨bs,k⟩:=j3 I sm f.1 o l;rcases m with rfl|rfl
  ·exact SeqAt.in_list_reads k j (se f.2) (se e.2) (YX e.2 g) ⟨.bl<|inD d ds,H,I,ρ,q⟩
  exact SeqAt.in_tuple_reads k j (se f.2) (se e.2) (YX e.2 g) ⟨.bl<|inD d ds,H,I,ρ,q⟩) d) Ld
theorem OQ(d:X.A.units+65<zR):aQ X (mu .NotIn) (pP X.K true):=aQ.or ((fun g=>by
  intro pins s σ H x y v u Q I rx l h;obtain⟨Hi,d,ds,c,m,sm,n,o,e,f,q⟩:=h;have e:=kx.1 e;have f:=kx.1 f;obtain⟨as,j⟩:=j3 I sm e.1 n rx;obtain⟨bs,k⟩:=j3 I sm f.1 o l;rcases m with rfl|rfl
  ·exact SeqAt.notIn_list_reads k j (se f.2) (se e.2) (YX e.2 g) ⟨.bl<|!inD d ds,H,I,ρ,q⟩
  exact SeqAt.notIn_tuple_reads k j (se f.2) (se e.2) (YX e.2 g) ⟨.bl<|!inD d ds,H,I,ρ,q⟩) d) Ud
def Qo:fF X (pP X.K neg) (A8 neg):=by
 intro H0 ps Z σ H Hi x y d d' o Q e S rx g k;delta A8 at e;split at e
 ·split at e
  ·rename_i f;have f:=kx.1 f;cases e;exact ι ⟨Hi,d,_,_,ι ρ,S.sub,rx,g,f.1,f.2,k _ H Hi S (ag.refl _) ρ⟩
  exact nO e
 ·split at e
  ·rename_i f;have f:=kx.1 f;cases e;exact ι ⟨Hi,d,_,_,τ ρ,S.sub,rx,g,f.1,f.2,k _ H Hi S (ag.refl _) ρ⟩
  exact nO e
 ·obtain rfl:=sO e;subst rx;subst g;exact τ ⟨_,_,ρ,ρ,k _ H Hi S (ag.refl _) ρ⟩
 exact nO e
noncomputable def kindAt(io:Bool)(c:Dat):Slot:=if io then .io c else .O c
noncomputable def ownOf:Slot->Option (Bool×Dat)
 | .O c=>al (false,c)
 | .io c=>al (true,c)
 | _=>am
def uH{s:Slot}{b:Bool}{c:Dat}(h:ownOf s=al (b,c)):s=kindAt b c:=by
 cases s<;>cases h<;>rfl
theorem SR.at(S:SR K H0 ps Z σ H Hi)(e:Z[i]?=al (kindAt io c)):∃p,σ[i]?=al (al<|.ref p)/\cx K H Hi p c:=by
 cases io with
 | false=>obtain⟨p,a,b,_⟩:=S.O i c e;exact⟨p,a,b⟩
 | true=>obtain⟨p,a,b,_⟩:=S.io i c e;exact⟨p,a,b⟩
theorem SR.write (S:SR K H0 ps Z σ H Hi)(e:Z[i]?=al (kindAt io c))(ep:σ[i]?=al (al<|.ref p))(t:cx K (upd H p o) Hi p c'):SR K H0 ps (Z.set i<|kindAt io c') σ (upd H p o) Hi:=by
 have x:=(cm.1 e).1;have y:Z[i]?=al (.O c)\/Z[i]?=al (.io c):=by
  cases io with
  | false=>exact ι e
  | true=>exact τ e
 have A:¬gx ps p->H0.1 p=am:=λnl=>by
  cases io with
  | false=>obtain⟨q,a,b,g,r⟩:=S.O i c e;rw[ep] at a;cases a;exact r
  | true=>obtain⟨q,a,b,g⟩:=S.io i c e;rw[ep] at a;cases a;exact absurd ⟨i,g⟩ nl
 have other:∀{j:Nat}{s:Slot},j≠i->(Z.set i<|kindAt io c')[j]?=al s->Z[j]?=al s:=λ{j s} f h=>by rw[gD (Ne.symm f)] at h;exact h
 have aau:∀{s:Slot},(Z.set i<|kindAt io c')[i]?=al s->s=kindAt io c':=λ{s} h=>by rw[ka x] at h;exact (Option.some.inj h).symm
 have ne:∀{j:Nat}{d:Dat}{q:dn},j≠i->(Z[j]?=al (.O d)\/Z[j]?=al (.io d))->σ[j]?=al (al<|.ref q)->q≠p:=λ{j d q} f h a z=>by subst z;exact f<|S.ne j i d c q h y a ep
 refine⟨vV S.sub t.some.2,λb u v n=>?_,λq l=>?_,λj d h=>?_,λj d h=>?_,λj d h=>?_,λj k d d' q B C D E=>?_,by rw[nL];exact S.len,S.nw⟩
 ·have F:b≠p:=λz=>by subst z;rw[A n] at v;exact nO v
  rw[ax F];exact S.keep b u v n
 ·by_cases m:q=p
  ·subst m;rw[aT];simp
  rw[ax m];exact S.dB q l
 ·have f:j≠i:=λz=>by subst z;have:=aau h;cases io<;>contradiction
  exact S.D j d<|other f h
 ·by_cases f:j=i
  ·subst f;have:=aau h;cases io with
   | false =>
    cases this;obtain⟨q,a,b,g,r⟩:=S.O j c e;rw[ep] at a;cases a;exact⟨p,ep,t,g,r⟩
   | true=>cases this
  obtain⟨q,a,b,g,r⟩:=S.O j d<|other f h;have m:=ne f (ι<|other f h) a;exact⟨q,a,b.keeps (ax m) (ag.refl _) b.some.2,g,r⟩
 ·by_cases f:j=i
  ·subst f;have:=aau h;cases io with
   | true =>
    cases this;obtain⟨q,a,b,g⟩:=S.io j c e;rw[ep] at a;cases a;exact⟨p,ep,t,g⟩
   | false=>contradiction
  obtain⟨q,a,b,g⟩:=S.io j d<|other f h;have m:=ne f (τ<|other f h) a;exact⟨q,a,b.keeps (ax m) (ag.refl _) b.some.2,g⟩
 have back:∀{j:Nat}{d:Dat},((Z.set i<|kindAt io c')[j]?=al (.O d)\/(Z.set i<|kindAt io c')[j]?=al (.io d))->∃d',Z[j]?=al (.O d')\/Z[j]?=al (.io d'):=λ{j d} h=>by
  by_cases f:j=i
  ·subst f;exact⟨c,y⟩
  exact⟨d,h.imp (other f)<|other f⟩
 obtain⟨G,I⟩:=back B;obtain⟨J,L⟩:=back C;exact S.ne j k G J q I L D E
def MD(K:ft)(T:String)(r:V->List V->Hp->VK->Prop)(e:Dat->List Dat->Option (Dat×Dat)):Prop:=∀(H Hi:Hp) (p:dn) (c:Dat) (ds:List Dat) (vs:List V) (d c':Dat) (Q:VK),e c ds=al (d,c')->ag Hi H->cx K H Hi p c->aw K Hi ds vs ->
 (∀v o,cx K (upd H p o) Hi p c'->Rep K Hi d v->Q v (upd H p o))->r (.ref p) vs H Q
noncomputable def T6:Dat->Bool
 | .L _=>true
 | _=>false
def iS(i:Nat)(d:Dat->List Dat->Option (Dat×Dat))(fa:AF):DF:=λZ=>((Z[i]?).bind ownOf).bind λs=>if T6 s.2=bi then (fa Z).bind λp=>((p.2[i]?).bind ownOf).bind λt=>(d t.2 p.1).map λq=>(q.1,p.2.set i<|kindAt t.1 q.2) else am
theorem Oj (h:iS i j fa Z=al (d,Z')) :
  ∃io c ds Z1 e f c',Z[i]?=al (kindAt io<|.L c)/\fa Z=al (ds,Z1)/\Z1[i]?=al (kindAt e f)/\j f ds=al (d,c')/\Z'=Z1.set i (kindAt e c'):=by
 delta iS at h;cases k:Z[i]? with
 | none=>rw[k] at h;exact nO h
 | some s =>
  rw[k] at h;obtain⟨io,c,m,h⟩:=oB h;dsimp only at h;split at h
  ·cases l:fa Z with
   | none=>rw[l] at h;exact nO h
   | some p =>
    obtain⟨ds,Z1⟩:=p;rw[l] at h;simp at h;cases g:Z1[i]? with
    | none=>rw[g] at h;exact nO h
    | some s1 =>
     rw[g] at h;obtain⟨e,f,n,h⟩:=oB h;obtain⟨d',c',o,h⟩:=oN h;dsimp only at h;obtain⟨rfl,rfl⟩:=sP h;cases c with
     | L c=>exact⟨io,c,ds,Z1,e,f,c',by rw[uH m],rfl,by rw[g,uH n],o,rfl⟩
     | _=>contradiction
  exact nO h
def Gj (i:Nat)(hN:X.N[i]?=al x)(hv:cj X.env.scope x)(A:∀{t:TA},PA X (e::f) t->PE X (.Call (.Attribute (.Name x l) m apos) (e::f) [] pos) (mn X.K "list" r (ff i) t))(B:MD X.K "list" r n)(C:DA X (e::f) fa):DD X (.Call (.Attribute (.Name x l) m apos) (e::f) [] pos) (iS i n fa):=by obtain⟨t,p,q⟩:=C;refine⟨_,A p,λH0 ps Z σ H Hi d Z' Q D S k=>?_⟩;obtain⟨io,c,ds,Z1,io',E,c',F,G,u,I,rfl⟩:=Oj D;obtain⟨a,h,J⟩:=S.at F;obtain⟨y,L,_,_⟩:=J;refine⟨.ref a,h,ι ⟨ρ,y,bA.of L⟩,?_⟩;refine q H0 ps Z σ H Hi ds Z1 _ G S λvs M g j O R=>?_;obtain⟨b,z,T⟩:=j.at u;rw[h] at z;cases z;exact B M g a E ds vs d c' Q I j.sub T R λv o o1 U=>k v _ g (j.write u h o1) O U
noncomputable def o9:Dat->List Dat->Option (Dat×Dat)
 | .L xs,[d]=>if xs.length<dk then al (.aU,.L<|xs++[d]) else am
 | _,_=>am
def OW (i:Nat)(k:X.N[i]?=al x)(l:cj X.env.scope x)(n:DA X [e] fa)(hd:bD x:=by decide)(m:cH x:=by decide)(f:X6 (.Name x d) "append" X.env (eval (.Name x d) X.env)=eval (.Name x d) X.env:=by rfl)(j:sA X pos e:=by rfl)(g:(apos.endLine==pos.line)=bi:=by rfl)(o:bN X e []:=by rfl):DD X (.Call (.Attribute (.Name x d) "append" apos) [e] [] pos) (iS i o9 fa) :=
 Gj i k l (λh=>lQ KX X0 YG vm (fh k l hd m) h f j g o ρ) (by
   intro H Hi p c ds vs d c' Q e sm g r k;delta o9 at e;split at e
   ·split at e
    ·rename_i h;obtain⟨rfl,rfl⟩:=sP e;obtain⟨j,l,f,m⟩:=g;obtain⟨v,vr,rfl,n,o⟩:=r;subst o;exact⟨p,j,v,ρ,ρ,l,by rw[f.length];exact h,k .aU _ ⟨_,aT,aw.append f ⟨v,[],ρ,n,ρ⟩,m⟩ ρ⟩
    exact nO e
   exact nO e) n
end
def CD(X:Cx)(r:List V->Hp->VK->Prop)(d:List Dat->Option Res):Prop:=∀(b:Hp×Hp) (c:Nat->Option dn) (Z:DS) (σ:St) (H Hi:Hp) (vs:List V) (ds:List Dat) (o:Res) (Q:VK),d ds=al o->SR X.K b c Z σ H Hi->aw X.K Hi ds vs ->
 (∀v H' a,SR X.K b c Z σ H' a->ag Hi a->RR X.K b c Z σ H' a v o->Q v H')->r vs H Q
section
variable{X:Cx}{pos p:H9}{x:e6}{id T:String}{r:List V->Hp->VK->Prop}{fo:List Dat->Option Res}{e:hH}{es:List hH}{fa:AF}{K:ft}{H0:Hp×Hp}{ps:Nat->Option dn}{Z:DS}{σ:St}{H Hi:Hp}{i:Nat}{d:Dat}{v:V}{a b:hH}{P:kH}{w:pe}{mg:e6->Option cA}{base:ph}{f g:DF}{p2:H9}
def C4 (m:CD X r fo)(q:∀(H0:Hp×Hp) (ps:Nat->Option dn) (Z:DS) (σ:St) (H Hi:Hp) (ds:List Dat) (Z':DS) (Q:List V->Hp->Prop),fa Z=al (ds,Z')->SR X.K H0 ps Z σ H Hi->(∀vs H' c,SR X.K H0 ps Z' σ H' c->ag Hi c->aw X.K c ds vs->Q vs H')->t σ H Q)(H0:Hp×Hp)(ps:Nat->Option dn)(Z:DS)(σ:St)(H Hi:Hp)(o:Res)(Z':DS)(Q:VK)(h:cb fo fa Z=al (o,Z'))(S:SR X.K H0 ps Z σ H Hi)(k:∀v H' c,SR X.K H0 ps Z' σ H' c->ag Hi c->RR X.K H0 ps Z' σ H' c v o->Q v H'):vg r t σ H Q:=by obtain⟨ds,Z1,n,h⟩:=oB h;obtain⟨r2,s,h⟩:=oM h;obtain⟨rfl,rfl⟩:=sP h;refine q H0 ps Z σ H Hi ds _ _ n S λvs u j y z A=>?_;exact m H0 ps _ σ u j vs ds _ Q s y A λv B l C D E=>k v B l C (z.trans D) E
def jT(j:bP X (.builtin id) r)(k:CD X r fo)(l:Gl X x)(m:X.mg x=am)(n:Xf x=al (.builtin id))(o:DA X (e::es) fa)(s:x≠"__name__":=by decide)(c:bD x:=by decide)
 (u:bN X e es:=by rfl)(h:(XG pos<|nk es X.env).any (·.1)=bn:=by rfl):DE X (.Call (.Name x p) (e::es) [] pos) (cb fo fa):=by
 obtain⟨t,y,q⟩:=o;exact⟨_,wd j l m n y s c u h,C4 k q⟩
def tz(j:bP X (.type T) r)(k:CD X r fo)(l:Gl X x)(m:X.mg x=am)(n:Xf x=al (.type T))(o:DA X (e::es) fa)(s:x≠"__name__":=by decide)(c:bD x:=by decide)
 (u:bN X e es:=by rfl)(h:(XG pos<|nk es X.env).any (·.1)=bn:=by rfl):DE X (.Call (.Name x p) (e::es) [] pos) (cb fo fa):=by
 obtain⟨t,y,q⟩:=o;exact⟨_,uT j l m n y s c u h,C4 k q⟩
noncomputable def vw:List Dat->Option Res
 | [.int i]=>al (.D<|.int (if i<0 then -i else i))
 | _=>am
def O1:CD X (λxs H Q=>∃i,xs=[.int i]/\Q (.int (if i<0 then -i else i)) H) vw:=by
 intro H0 ps Z σ H Hi vs ds o Q e S r k;delta vw at e;split at e
 ·obtain rfl:=sO e;obtain⟨v,vr,rfl,c,h⟩:=r;subst c;subst h;exact⟨_,ρ,k _ H Hi S (ag.refl _) ρ⟩
 exact nO e
noncomputable def rM:List Dat->Option Res
 | [.int i]=>al (.D<|.int i)
 | [.bl b]=>al (.D<|.int (if b then 1 else 0))
 | _=>am
def IZ:CD X (λxs H Q=>(∃i,xs=[.int i]/\Q (.int i) H)\/∃k,xs=[.bl k]/\Q (.int (if k then 1 else 0)) H) rM:=by
 intro H0 ps Z σ H Hi vs ds o Q e S r k;delta rM at e;split at e
 ·cases e;obtain⟨v,j,rfl,c,h⟩:=r;cases c;subst h;exact ι ⟨_,ρ,k _ H Hi S (ag.refl _) ρ⟩
 ·cases e;obtain⟨v,j,rfl,c,h⟩:=r;subst c;subst h;exact τ ⟨_,ρ,k _ H Hi S (ag.refl _) ρ⟩
 exact nO e
noncomputable def xE:List Dat->Option Res
 | [.int i,.int j]=>al (.D<|.int (if j<i then j else i))
 | _=>am
noncomputable def yu:List Dat->Option Res
 | [.int i,.int j]=>al (.D<|.int (if j>i then j else i))
 | _=>am
def NG:CD X (λxs H Q=>∃i j,xs=[.int i,.int j]/\Q (.int (if j<i then j else i)) H) xE:=by
 intro H0 ps Z σ H Hi vs ds o Q e S r k;delta xE at e;split at e
 ·obtain rfl:=sO e;obtain⟨v,vr,rfl,h,w,wr,rfl,c,l⟩:=r;subst h;subst c;subst l;exact⟨_,_,ρ,k _ H Hi S (ag.refl _) ρ⟩
 exact nO e
def JJ:CD X (λxs H Q=>∃i j,xs=[.int i,.int j]/\Q (.int (if j>i then j else i)) H) yu:=by
 intro H0 ps Z σ H Hi vs ds o Q e S r k;delta yu at e;split at e
 ·obtain rfl:=sO e;obtain⟨v,vr,rfl,h,w,wr,rfl,c,l⟩:=r;subst h;subst c;subst l;exact⟨_,_,ρ,k _ H Hi S (ag.refl _) ρ⟩
 exact nO e
noncomputable def dg:Dat->Option Nat
 | .L ds=>al ds.length
 | .U ds=>al ds.length
 | .bV c=>al c.length
 | .d9 c=>al c.length
 | .str x=>if x.length<=dk then al x.length else am
 | _=>am
def yF:List Dat->Option Res
 | [d]=>(dg d).map λn:Nat=>.D (.int (n:Int))
 | _=>am
def Am(K:ft):List V->Hp->VK->Prop:=λxs H Q=>(∃p ys,xs=[.ref p]/\(bA K H p ys\/aS K H p ys)/\Q (.int ys.length) H)\/(λxs H Q=>(λxs H Q=>(∃z,xs=[.str z]/\z.length<=dk/\Q (.int z.length) H)) xs H Q\/(λxs H Q=>∃a kvs,xs=[.ref a]/\Rd H a (.dK kvs)/\Q (.int kvs.length) H) xs H Q) xs H Q
def Fp:bP X (.builtin "len") (Am X.K):=bP.or KO<|bP.or Ou (by intro pins s σ H xs us Q I r h;obtain⟨a,kvs,rfl,c,q⟩:=h;obtain⟨u,rfl,j⟩:=vals1 r;subst j;exact Lb I c λt s' k=>⟨.int kvs.length,H,k,⟨t,ρ⟩,q⟩)
theorem LO:CD X (Am X.K) yF:=by
 intro H0 ps Z σ H Hi vs ds o Q e S r k;delta yF at e;split at e
 ·rename_i d;obtain⟨v,vr,rfl,h,j⟩:=r;subst j;cases d with
  | L ds =>
   cases e;obtain⟨p,c,rfl,q,rs⟩:=h;refine ι ⟨p,c,ρ,ι<|ι<|Rd.mono S.sub q,k _ H Hi S (ag.refl _) ?_⟩;show V.int _=V.int _;rw[rs.length]
  | U ds =>
   cases e;obtain⟨p,c,rfl,q,rs⟩:=h;refine ι ⟨p,c,ρ,τ<|aS.mono S.sub q,k _ H Hi S (ag.refl _) ?_⟩;show V.int _=V.int _;rw[rs.length]
  | str x =>
   subst h;have e:(if x.length<=dk then al x.length else am).map (λn:Nat=>Res.D<|.int n)=al o:=e;split at e
   ·rename_i l;obtain rfl:=sO e;exact τ<|ι ⟨x,ρ,l,k _ H Hi S (ag.refl _) ρ⟩
   exact nO e
  | bV m =>
   cases e;obtain⟨p,c,rfl,q,rs⟩:=h;refine τ<|τ ⟨p,c,ρ,Rd.of<|S.sub _ _ q,k _ H Hi S (ag.refl _) ?_⟩;show V.int _=V.int _;rw[bC.length rs]
  | d9 m =>
   cases e;obtain⟨p,s,c,rfl,q,rs⟩:=h;refine τ<|τ ⟨p,c,ρ,τ ⟨s,S.sub _ _ q⟩,k _ H Hi S (ag.refl _) ?_⟩;show V.int _=V.int _;rw[bC.length rs]
  | _=>exact nO e
 exact nO e
def r6:Dat->Dat->Option Dat
 | .L ds,.int i=>di ds i
 | .U ds,.int i=>di ds i
 | .str x,.int i=>if x.length<=dk then (di x.cps.toList i).map λc=>.str ⟨#[c]⟩ else am
 | _,_=>am
noncomputable def j8:Slot->Option Dat
 | .D d=>al d
 | .O d=>al d
 | .io d=>al d
 | .no=>am
def Top(K:ft)(H Hi:Hp)(v:V):Dat->Prop
 | .L ds=>∃p vs,v=.ref p/\Rd H p (.L vs)/\aw K Hi ds vs
 | .U ds=>∃p vs,v=.ref p/\aS K H p vs/\aw K Hi ds vs
 | .bV c=>∃p kvs,v=.ref p/\H p=al (.dK kvs)/\bC K Hi c kvs
 | .aN h c=>∃p o kvs,v=.ref p/\H p=al (if h then .aV o (.dT kvs) else .dT kvs)/\bR K Hi c kvs
 | d=>Rep K Hi d v
theorem Rep.top(r:Rep K Hi d v)(s:ag Hi H):Top K H Hi v d:=by
 cases d with
 | L ds=>obtain⟨p,vs,a,b,c⟩:=r;exact⟨p,vs,a,Rd.mono s b,c⟩
 | U ds=>obtain⟨p,vs,a,b,c⟩:=r;exact⟨p,vs,a,aS.mono s b,c⟩
 | bV ds=>obtain⟨p,vs,a,b,c⟩:=r;exact⟨p,vs,a,s _ _ b,c⟩
 | aN fz ds=>obtain⟨p,o,vs,a,b,c⟩:=r;exact⟨p,o,vs,a,s _ _ b,c⟩
 | _=>exact r
theorem cx.top{p:dn}(h:cx K H Hi p d):Top K H Hi (.ref p) d:=by
 cases d with
 | L ds=>obtain⟨vs,a,b,_⟩:=h;exact⟨p,vs,ρ,Rd.of a,b⟩
 | bV c=>obtain⟨vs,a,b,_⟩:=h;exact⟨p,vs,ρ,a,b⟩
 | aN fz c=>obtain⟨rfl,vs,a,b,_⟩:=h;exact⟨p,{cls:=.none,data:=.fields #[]},vs,ρ,a,b⟩
 | _=>exact h.elim
theorem SR.peek(S:SR K H0 ps Z σ H Hi)(e:(Z[i]?).bind j8=al d):∃v,σ[i]?=al (al v)/\Top K H Hi v d:=by
 obtain⟨s,c,e⟩:=oA e;cases s with
 | no=>exact nO e
 | D d'=>cases e;obtain⟨v,a,b⟩:=S.D i d c;exact⟨v,a,b.top S.sub⟩
 | O d'=>cases e;obtain⟨p,a,b,_⟩:=S.O i d c;exact⟨_,a,b.top⟩
 | io d'=>cases e;obtain⟨p,a,b,_⟩:=S.io i d c;exact⟨_,a,b.top⟩
theorem GP (r:aw K Hi ds vs)(e:di ds k=al d):∃v,di vs k=al v/\Rep K Hi d v:=by
 delta di at e ⊢;rw[r.length];cases q:fZ ds.length k with
 | none=>rw[q] at e;exact nO e
 | some j=>rw[q] at e;exact r.get e
def Fy{x y:V}{a b:Dat}{Q:VK}(t:Top K H Hi x a)(j:Rep K Hi b y)(e:r6 a b=al d)(k:∀v,Rep K Hi d v->Q v H):Fc K x y H Q:=by
 delta r6 at e;split at e
 ·obtain⟨p,vs,rfl,l,rs⟩:=t;cases j;obtain⟨v,h,m⟩:=GP rs e;exact ι ⟨p,vs,_,v,ρ,ρ,ι l,h,k v m⟩
 ·obtain⟨p,vs,rfl,l,rs⟩:=t;cases j;obtain⟨v,h,m⟩:=GP rs e;exact τ<|ι ⟨p,vs,_,v,ρ,ρ,l,h,k v m⟩
 ·split at e
  ·rename_i n;subst t;subst j;obtain⟨c,h,e⟩:=oM e;obtain rfl:=sO e;exact τ<|τ ⟨_,_,c,ρ,ρ,n,h,k _ ρ⟩
  exact nO e
 exact nO e
def qU(i:Nat):DF:=λZ=>((Z[i]?).bind j8).bind λc=>(dg c).map λn:Nat=>(.int (n:Int),Z)
theorem HN (i:Nat)(u:X.N[i]?=al x)(y:cj X.env.scope x)(A:Gl X "len")(B:X.mg "len"=am)(hd:bD x:=by decide)(o:cH x:=by decide) :
  DD X (.Call (.Name "len" s) [.Name x q] [] pos) (qU i):=by
 refine⟨_,wd Fp A B aaq<|gw (fh u y hd o) il ρ,λH0 ps Z σ H Hi d Z' Q e S k=>?_⟩;obtain⟨c,C,e⟩:=oA e;cases h:dg c with
 | none=>rw[h] at e;exact nO e
 | some n =>
  rw[h] at e;obtain⟨rfl,rfl⟩:=sP e;obtain⟨v,a,t⟩:=S.peek C;refine⟨v,a,?_⟩;have j:∀m:Nat,m=n->Q (.int (m:Int)) H:=λm em=>k _ H Hi S (ag.refl _) (by rw[em];rfl);cases c with
  | L ds=>obtain⟨p,vs,rfl,l,rs⟩:=t;cases h;exact ι ⟨p,vs,ρ,ι<|ι l,j _ rs.length⟩
  | U ds=>obtain⟨p,vs,rfl,l,rs⟩:=t;cases h;exact ι ⟨p,vs,ρ,τ l,j _ rs.length⟩
  | bV D=>obtain⟨p,vs,rfl,l,rs⟩:=t;cases h;exact τ (τ ⟨p,vs,ρ,Rd.of l,j _<|bC.length rs⟩)
  | d9 D=>obtain⟨p,E,vs,rfl,l,rs⟩:=t;obtain rfl:=sO h;exact τ (τ ⟨p,vs,ρ,τ ⟨E,S.sub _ _ l⟩,j _<|bC.length rs⟩)
  | str z =>
   subst t;have h:(if z.length<=dk then al z.length else am)=al n:=h;split at h
   ·rename_i F;obtain rfl:=sO h;exact τ<|ι ⟨z,ρ,F,j _ ρ⟩
   exact nO h
  | _=>exact nO h
def r8(i:Nat)(c f:DF):SF:=λZ=>(f Z).bind λp=>((p.2[i]?).bind ownOf).bind λ_=>(c p.2).bind λq=>match q.1 with
 | .int k=>((q.2[i]?).bind ownOf).bind λs=>(match s.2 with
  | .L xs=>(fZ xs.length k).map λj=>.next (q.2.set i<|kindAt s.1<|.L<|xs.set j p.1)
  | _=>am)
 | _=>am
theorem Sm (i:Nat)(V:X.N[i]?=al x)(W:cj X.env.scope x)(h:DD X e f)(Y:DD X l F)(hd:bD x:=by decide)(G:cH x:=by decide)(ha:∀v,Ya (.Subscript (.Name x m) l pt) X.env v=(do
   let u <-XY [v] (eval (.Name x m) X.env);let A <-XY [v,u] (eval l X.env)
   aaT pt
   XY [v,u,A] (abx u A v)
   release [v,u,A] []):=by intro _;rfl)(hs:Y8 [.Subscript (.Name x m) l pt] e pos.line X.env=pure false:=by rfl)(hw:Y9 [.Subscript (.Name x m) l pt] e X.env=pure am:=by rfl)(B:(t9 [.Subscript (.Name x m) l pt] X.env).map (·.2)=[Ya (.Subscript (.Name x m) l pt) X.env]:=by rfl):cg X (.Assign [.Subscript (.Name x m) l pt] e pos) (r8 i F f):=by
 obtain⟨t,p,q⟩:=h;obtain⟨tk,pk,qk⟩:=Y;refine⟨_,Cj p (HQ (fh V W hd G) pk set_list ha) hs hw B,λH0 ps Z σ H Hi o D e S k=>?_⟩;obtain⟨d,Z1,e1,e⟩:=oB e;obtain⟨s0,e2,e⟩:=oA e;obtain⟨n,Z2,e3,e⟩:=oB e;dsimp only at e;split at e
 ·rename_i kk;obtain⟨io,c,I,e⟩:=oB e;dsimp only at e;cases c with
  | L xs =>
   obtain⟨j,e5,e⟩:=oM e;obtain rfl:=sO e;have C:∀{Z':DS}{b:Bool}{c:Dat},(Z'[i]?).bind ownOf=al (b,c)->Z'[i]?=al (kindAt b c):=λ{Z' b c} h=>by
    cases z:Z'[i]? with
    | none=>rw[z] at h;exact nO h
    | some s=>rw[z] at h;rw[uH h]
   refine q H0 ps Z σ H Hi d Z1 _ e1 S λv H1 J L s1 r1=>?_;obtain⟨a,E,_⟩:=L.at<|C e2;refine⟨.ref a,E,qk H0 ps Z1 σ H1 J _ Z2 _ e3 L λy H2 M O Q r2=>?_⟩;subst r2;obtain⟨b,R,ob⟩:=O.at<|C I;rw[E] at R;cases R;obtain⟨vs,B,U,h3⟩:=ob;refine⟨a,vs,kk,j,ρ,ρ,B,by rw[U.length];exact e5,?_⟩;exact k σ _ M (O.write (C I) E ⟨_,aT,aw.set j U<|Rep.mono Q r1,h3⟩) (s1.trans Q)
  | _=>exact nO e
 exact nO e
def LU(X:Cx)(j:Nat)(i:Nat)(f:AF)(t:TA):Prop:=∀(H0:Hp×Hp) (ps:Nat->Option dn) (Z:DS) (σ:St) (H Hi:Hp) (ds:List Dat) (Z':DS) (w:V) (Q:List V->Hp->Prop),f Z=al (ds,Z')->SR X.K H0 ps Z σ H Hi->σ[i]?=al (al w) ->
 (∀vs H' c,SR X.K H0 ps Z' σ H' c->ag Hi c->vs[j]?=al w->aw X.K c ds (vs.eraseIdx j)->Q vs H')->t σ H Q
inductive wz (X:Cx) (es:List hH) (j i:Nat) (f:AF):Prop
 | mk (t:TA) (p:PA X es t) (q:LU X j i f t)
def Il{x:e6}{c:H9}{es:List hH}{g:AF}(i:Nat)(m:X.N[i]?=al x)(n:cj X.env.scope x)(h:DA X es g)(o:nk (.Name x c::es) X.env=(false,eval (.Name x c) X.env)::nk es X.env:=by rfl)
 (hd:bD x:=by decide)(j:cH x:=by decide):wz X (.Name x c::es) 0 i g:=by
 obtain⟨t,p,q⟩:=h;refine⟨_,gw (fh m n hd j) p o,λH0 ps Z σ H Hi ds Z' w Q e S s k=>⟨w,s,?_⟩⟩;exact q H0 ps Z σ H Hi ds Z' _ e S λvs H' l u s' r=>k (w::vs) H' l u s' ρ r
theorem SR.CK{K:ft}{H0:Hp×Hp}{ps:Nat->Option dn}{Z:DS}{σ:St}{H Hi H' k:Hp}{v:V}{r:Res}{i:Nat}{io:Bool}{c c':Dat}{p:dn}(S:SR K H0 ps Z σ H Hi)(e:Z[i]?=al (kindAt io c))(ep:σ[i]?=al (al<|.ref p))
 (s:∀b o,H b=al o->b≠p->H' b=al o)(N:ag Hi k)(O:ag k H')(nw:∀p o,k p=al o->jD Hi H p o)(C:cx K H' k p c')(n:RC K H H' k v r) :
  SR K H0 ps (Z.set i<|kindAt io c') σ H' k/\RR K H0 ps (Z.set i<|kindAt io c') σ H' k v r:=by
 obtain⟨q,eq,Q⟩:=S.at e;rw[ep] at eq;cases eq;obtain⟨⟨m,y⟩,hn⟩:=Q.some;obtain⟨⟨u,D⟩,E⟩:=C.some;have R:ag H (upd H' p m):=λb o A=>by
  by_cases z:b=p
  ·subst z;rw[aT];rw[y] at A;exact A
  rw[ax z];exact s b o A z
 have F:ag k (upd H' p m):=vV O E;have G:RC K H (upd H' p m) k v r:=by
  cases r with
  | D d=>exact n
  | O c0 =>
   obtain⟨p0,B,t,l⟩:=n;have I:p0≠p:=λz=>by subst z;rw[y] at l;contradiction
   exact⟨p0,B,t.keeps (ax I) (ag.refl _) t.some.2,l⟩
 obtain⟨U,rr⟩:=S.after R N F nw G;have J:upd (upd H' p m) p u=H':=by
  rw[Lg];funext b;by_cases z:b=p
  ·subst z;rw[aT,D]
  rw[ax z]
 have L:=U.write e ep (by rw[J];exact C);simp[J] at L;refine⟨L,?_⟩;cases r with
 | D d=>exact n
 | O c0 =>
  obtain⟨p0,B,t,l⟩:=n;refine⟨p0,B,t,(S.bB l).2,(S.bB l).1,λj d h z=>?_⟩;by_cases M:j=i
  ·subst M;rw[ep] at z;cases z;rw[y] at l;contradiction
  rw[gD (Ne.symm M)] at h;exact S.dO l j d h z
def sT(fn:cz)(i:Nat)(fa:AF):EF:=λZ=>((Z[i]?).bind ownOf).bind λ_=>(fa Z).bind λp=>((p.2[i]?).bind ownOf).bind λs=>(fn s.2 p.1).map λq=>(q.1,p.2.set i<|kindAt s.1 q.2)
theorem kJ{Z:DS}{i:Nat}{b:Bool}{c:Dat}(h:(Z[i]?).bind ownOf=al (b,c)):Z[i]?=al (kindAt b c):=by
 cases z:Z[i]? with
 | none=>rw[z] at h;exact nO h
 | some s=>rw[z] at h;rw[uH h]
def Pz (h:xy X x (dy X.K j fn))(C:wz X (e::es) j i fa)(o:bD x:=by decide)(D:bN X e es:=by rfl)(s:(XG pos<|nk es X.env).any (·.1)=bn:=by rfl):DE X (.Call (.Name x p) (e::es) [] pos) (sT fn i fa):=by obtain⟨E,CX,k,f,fd,pn,F,G,I,J,L,hx⟩:=h;obtain⟨t,M,q⟩:=C;refine⟨_,Ah F G E I J L .nil hx M o D s,λH0 ps Z σ H Hi r Z' Q l S k=>?_⟩;obtain⟨b0,c0,N,l⟩:=oB l;obtain⟨ds,Z1,O,l⟩:=oB l;obtain⟨io,c,u,l⟩:=oB l;obtain⟨r',c',R,l⟩:=oN l;dsimp only at l;obtain⟨rfl,rfl⟩:=sP l;obtain⟨a,m,_⟩:=S.at<|kJ N;refine q H0 ps Z σ H Hi ds Z1 _ _ O S m λvs H1 y n U V W=>?_;obtain⟨b,z,Y⟩:=n.at<|kJ u;rw[m] at z;cases z;refine⟨y,a,c,ds,_,c',n.sub,by rw[sb];exact V,Y,by rw[sb];exact W,R,λv H2 A a1 B a3 a4 oc rc=>?_⟩;obtain⟨S2,rr⟩:=n.CK (kJ u) m a1 B a3 a4 oc rc;exact k v H2 A S2 (U.trans B) rr
noncomputable def jN(n j:Nat)(c:Dat)(ds:List Dat):DS:=(ds.map Slot.D).take j++.io c::(ds.map Slot.D).drop j++C' (n-ds.length-1) .no
def og(n j:Nat)(f:SF):cz:=λc ds=>(f<|jN n j c ds).bind λo=>match o with
 | .next Z=>(match Z[j]? with|some (.io c')=>al (.D .aU,c')|_=>am)
 | .ret r Z=>(match Z[j]? with|some (.io c')=>al (r,c')|_=>am)
 | _=>am
theorem xq (hj:j<=ds.length)(h:(jN n j c ds)[k]?=al s) :
  (k<j/\∃d,ds[k]?=al d/\s=.D d)\/(k=j/\s=.io c)\/(j<k/\∃d,ds[k-1]?=al d/\s=.D d)\/s=.no:=by
 delta jN at h;have l:((ds.map Slot.D).take j).length=j:=by rw[hY,bt];lia
 by_cases o:k<j
 ·rw[um,hG (by simp only[l];exact o),aaM o,c6] at h;cases e:ds[k]? with
  | none=>rw[e] at h;exact nO h
  | some d=>simp_all
 rw[um,hE (by rw[l];lia),l] at h;by_cases q:k=j
 ·subst q;rw[Zb] at h;obtain rfl:=sO h;exact τ<|ι ⟨ρ,ρ⟩
 have t:j<k:=by lia
 obtain⟨m,u⟩:∃m,k-j=m+1:=⟨k-j-1,by lia⟩;simp[u] at h;by_cases y:m<((ds.map Slot.D).drop j).length
 ·rw[hG y,xr,c6] at h;have z:j+m=k-1:=by lia
  rw[z] at h;cases e:ds[k-1]? with
  | none=>rw[e] at h;exact nO h
  | some d=>rw[e] at h;obtain rfl:=sO h;exact τ<|τ<|ι ⟨t,d,ρ,ρ⟩
 rw[hE (by lia),YY] at h;simp_all
theorem FI{K:ft}{N:List e6}{vs:List V}{ds:List Dat}{H Hi:Hp}{j:Nat}{p:dn}{c:Dat}(s:ag Hi H)(hl:vs.length<=N.length)(A:vs[j]?=al (.ref p))(B:cx K H Hi p c)(r:aw K Hi ds (vs.eraseIdx j)) :
  SR K (H,Hi) (fun k=>if k=j then al p else am) (jN N.length j c ds) (start N vs) H Hi:=by
 have D:=(cm.1 A).1;have hd:=r.length;rw[aaE D] at hd;have n:j<=ds.length:=⋯;have st:∀{k:Nat}{v:V},vs[k]?=al v->(start N vs)[k]?=al (al v):=fun {k v} e=>by unfold start;rw[hG (by simpa using (cm.1 e).1),c6,e];rfl
 have m:∀{k:Nat}{d:Dat},(jN N.length j c ds)[k]?≠al (.O d):=fun {k d} h=>by rcases xq n h with⟨_,_,_,e⟩|⟨_,e⟩|⟨_,_,_,e⟩|e<;>contradiction
 have t:∀{k:Nat}{d:Dat},(jN N.length j c ds)[k]?=al (.io d)->k=j/\d=c:=fun {k d} h=>by
  rcases xq n h with⟨_,_,_,e⟩|⟨a,e⟩|⟨_,_,_,e⟩|e
  ·contradiction
  simp_all
  ·contradiction
  contradiction
 refine⟨s,fun b o e _=>e,fun q l=>?_,fun k d e=>?_,fun k d e=>absurd e m,fun k d e=>?_,fun k E d d' q F G z1 z2=>?_,?_,fun q o e=>ι e⟩
 ·obtain⟨k,z⟩:=l;dsimp only at z;split at z
  ·obtain rfl:=sO z;obtain⟨⟨o,e⟩,_⟩:=B.some;rw[e];simp
  exact nO z
 ·rcases xq n e with⟨C,d',y,u⟩|⟨_,u⟩|⟨C,d',y,u⟩|u
  ·cases u;obtain⟨v,a,b⟩:=r.get y;rw[List.getElem?_eraseIdx_of_lt C] at a;exact⟨v,st a,b⟩
  ·contradiction
  ·cases u;obtain⟨v,a,b⟩:=r.get y;rw[List.getElem?_eraseIdx_of_ge (by lia)] at a;have:k-1+1=k:=by lia
   rw[this] at a;exact⟨v,st a,b⟩
  contradiction
 ·obtain⟨rfl,rfl⟩:=t e;exact⟨p,st A,B,⋯⟩
 ·have I:k=j:=by
   rcases F with h|h
   ·cases m h
   exact (t h).1
  have J:E=j:=by
   rcases G with h|h
   ·cases m h
   exact (t h).1
  simp only[I,J]
 grind [jN,start]
theorem QM{x u:e6}{st:Xs}{f:dn}{R:kq}{N ps:List e6}{k j:Nat}{fn:cz}{fb:SF}(F:bz K x u st f R)(S:bK N ps (aP st))(J:∀c ds r,fn c ds=al r->ds.length+1=ps.length)
 (U:∀(cdv:cA) (A:qp) (outer:List ZO) (s:ey) (H:Hp) (E:XK),bY k (A.deeper<|Xc u (aP st) s.heap.objs.size f cdv)->gh (iE bj P w K mg base N u (aP st) f cdv A outer s H E).jA (fN st) fb)
 (hf:∀c ds r,fn c ds=al r->og N.length j fb c ds=al r):br P w K mg base bj (k+1) f R ps (dy K j fn):=by
 have G:∀{vs:List V}{H Hi:Hp}{p:dn}{c:Dat}{ds:List Dat}{r:Res×Dat},vs[j]?=al (V.ref p)->aw K Hi ds (vs.eraseIdx j)->fn c ds=al r->vs.length=ps.length:=fun {vs H Hi p c ds r} y rs e=>by have hj:=(cm.1 y).1;have:=rs.length;rw[aaE hj] at this;have:=J c ds r e;lia
 have hpl:ps.length<=N.length:=by have:=congrArg List.length S.pre;rw[hY] at this;lia
 refine F.ok S (fun vs H Q E h=>?_)<|fun cdv A outer s H vs Q E hr h=>?_
 ·obtain⟨Hi,p,c,ds,r,c',sm,y,W,rs,e,_⟩:=h;exact G (H:=H) y rs e
 obtain⟨Hi,p,c,ds,r,c',sm,y,W,rs,e,Y⟩:=h;obtain⟨t,pp,q⟩:=U cdv A outer s H E hr;refine⟨t,pp,?_⟩;have l:=hf c ds (r,c') e;unfold og at l;have hv:=G (H:=H) y rs e;obtain⟨o,e1,l⟩:=oA l;have I:∀{Z:DS}{σ':St}{H' m:Hp}{B:Dat},SR K (H,Hi) (fun k=>if k=j then al p else am) Z σ' H' m->Z[j]?=al (.io B) ->
   (∀b o,H b=al o->b≠p->H' b=al o)/\(∀p o,m p=al o->jD Hi H p o)/\cx K H' m p B:=fun {Z σ' H' m B} n D=>by
  refine⟨fun b o eb U=>n.keep b o eb fun ⟨k,z⟩=>?_,fun p o e=>n.nw p o e,?_⟩;simp_all;obtain⟨p',a,b,c2⟩:=n.io j B D;simp_all
 apply q (H,Hi) _ (jN N.length j c ds) (start N vs) H Hi o _ e1<|FI sm (by omega) y W rs;cases o with
 | next Z =>
  refine fun σ' H' m n s'=>?_;simp only at l;split at l
  ·rename_i B D;cases l;obtain⟨L,M,O⟩:=I n D;exact Y .aU H' m L s' n.sub M O ρ
  exact nO l
 | ret r' Z =>
  refine fun v σ' H' m n s' rr=>?_;simp only at l;split at l
  ·rename_i B D;cases l;obtain⟨L,M,O⟩:=I n D;apply Y v H' m L s' n.sub M O;cases r with
   | D d=>exact rr
   | O c0=>obtain⟨p0,e',o,np,n0,_⟩:=rr;exact⟨p0,e',o,n0⟩
  exact nO l
 | brk Z=>exact nO l
 | cont Z=>exact nO l
 | exc C Z=>exact nO l
def dZ{N:List e6}{x:e6}{i:Nat}(h:N.findIdx? (·==x)=al i):N[i]?=al x:=by obtain⟨c,hx,_⟩:=X4.1 h;simp_all
noncomputable def fL(i j:Int):Bool:=!(bd (sW i>Zs)&&bd (sW j>Zs)&&aag (sW i+sW j))
noncomputable def mD(_ j:Int):Bool:=bd (0<j)&&bd (j.natAbs.log2<9000)
noncomputable def Bw(i j:Int):Bool:=bd (0<=j)&&bd (j<=1000000)&&bd (i.natAbs<2 ^ 64)
def SU(c:DD X a f)(h:DD X b g):DE X (.BinOp a .Add b pos) (bW iJ f g):=nU O9 JP c h
def LP(c:DD X a f)(h:DD X b g):DE X (.BinOp a .Sub b pos) (bW (fR (λ_ _=>true) λi j=>.int<|i-j) f g):=nU (D6 λ_ _ _ _ _ _ _ q=>sub_int q) (uw λ_ _ _ _=>rfl) c h
def Ma(c:DD X a f)(k:DD X b g):DE X (.BinOp a .Mult b pos) (bW (fR fL λi j=>.int<|i*j) f g) :=
 nU (vA λ_ _ _ _ _ _ _ c q=>mul_int q c) (vF (λi j h=>by unfold fL at h;unfold IntMulOk;intro z;rw[z] at h;contradiction) λ_ _ _ _=>rfl) c k
def KY(c:DD X a f)(k:DD X b g):DE X (.BinOp a .FloorDiv b pos) (bW (fR mD λi j=>.int<|i/j) f g) :=
 nU Kj (vF (λi j h=>by unfold mD at h;rw[gj] at h;exact⟨of_decide_eq_true h.1,of_decide_eq_true h.2⟩) λ_ _ _ _=>rfl) c k
def Tx(c:DD X a f)(k:DD X b g):DE X (.BinOp a .Mod b pos) (bW (fR (λ_ j=>bd<|0<j) λi j=>.int<|i%j) f g) :=
 nU Kq (vF (λi j h=>of_decide_eq_true h) λ_ _ _ _=>rfl) c k
def R8(c:DD X a f)(k:DD X b g):DE X (.BinOp a .Pow b pos) (bW (fR Bw λi j=>.int<|i ^ j.toNat) f g) :=
 nU J9 (vF (λi j h=>by unfold Bw at h;rw[gj,gj] at h;exact⟨of_decide_eq_true h.1.1,of_decide_eq_true h.1.2,of_decide_eq_true h.2⟩) λ_ _ _ _=>rfl) c k
def RM(c:X.A.units+64<zR)(h:DD X a f)(j:DD X b g):DT X (.Compare a [.Eq] [b] pos) (dP<|bW (dR false) f g):=l9 (Ef c) wJ h j<|j2 _
def LY(c:X.A.units+64<zR)(h:DD X a f)(j:DD X b g):DT X (.Compare a [.NotEq] [b] pos) (dP<|bW (dR true) f g):=l9 (BS c) wJ h j<|j2 _
def T7(c:DD X a f)(h:DD X b g):DT X (.Compare a [.Gt] [b] pos) (dP<|bW (fR (λ_ _=>true) λi j=>.bl<|bd<|j<i) f g):=l9 Gh (uw λ_ _ _ _=>rfl) c h<|j2 _
def Rp(c:DD X a f)(h:DD X b g):DT X (.Compare a [.GtE] [b] pos) (dP<|bW (fR (λ_ _=>true) λi j=>.bl<|bd<|j<=i) f g):=l9 (vN λ_ _ _ _ _ _ _ q=>ge_int q) (uw λ_ _ _ _=>rfl) c h<|j2 _
def JR (h:X.N.findIdx? (·==x)=al i)(j:cj X.env.scope x)(hd:bD x)(c:cH x):DD X (.Name x pos) (cf i):=PY i (dZ h) j hd c
def BB (h:X.N.findIdx? (·==x)=al i)(j:cj X.env.scope x)(hd:bD x)(c:cH x):DE X (.Name x pos) (AW i):=LN i (dZ h) j hd c
def xM{x:e6}{e:hH}{f:EF}{c:H9}{i:Nat}(j:X.N.Nodup)(k:X.N.findIdx? (·==x)=al i)(hx:Loc X.env.scope x)(l:X.fn x=bi\/X.env.scope.names.lookup x=some .local)
 (m:Fs e (al<|.Name x c) pos.line X.env=pure false)(h:DE X e f):cg X (.Assign [.Name x c] e pos) (gQ i f):=(λi j l hx m h n=>by
   obtain⟨t,p,q⟩:=h;refine⟨_,BV j l hx p n m,λH0 ps Z σ H Hi o D e S k=>?_⟩
   obtain⟨r,Z1,s,e⟩:=oB e;obtain⟨Z2,u,e⟩:=oM e;obtain rfl:=sO e;exact q H0 ps Z σ H Hi r Z1 _ s S λv H' g w s' y=>k _ H' g (w.put y u) s') i j (dZ k) hx l h m
def O3 (o:X.N.findIdx? (·==x)=al i)(q:cj X.env.scope x)(hd:bD x)(n:cH x)(s:∀v,Ya (.Subscript (.Name x j) c pt) X.env v=(do
   let k <-XY [v] (eval (.Name x j) X.env);let l <-XY [v,k] (eval c X.env)
   aaT pt
   XY [v,k,l] (abx k l v)
   release [v,k,l] []))(t:Y8 [.Subscript (.Name x j) c pt] e pos.line X.env=pure false)(hw:Y9 [.Subscript (.Name x j) c pt] e X.env=pure am)(u:(t9 [.Subscript (.Name x j) c pt] X.env).map (·.2)=[Ya (.Subscript (.Name x j) c pt) X.env])(h:DD X e f)(y:DD X c m):cg X (.Assign [.Subscript (.Name x j) c pt] e pos) (r8 i m f):=Sm i (dZ o) q h y hd n s t hw u
abbrev OF:=DS->Option (Option Int×DS)
def KC(X:Cx)(f:OF)(t:TO):Prop:=∀(H0:Hp×Hp) (ps:Nat->Option dn) (Z:DS) (σ:St) (H Hi:Hp) (o:Option Int) (Z':DS) (Q:Option Int->Hp->Prop),f Z=al (o,Z')->SR X.K H0 ps Z σ H Hi->AJ X.K H0 ps σ Hi (Q o) Z'->t σ H Q
inductive DO (X:Cx) (e:Option hH) (f:OF):Prop
 | mk (t:TO) (p:PO X e t) (q:KC X f t)
noncomputable def qF:OF:=λZ=>al (am,Z)
noncomputable def mh(f:DF):OF:=λZ=>(f Z).bind λp=>match p.1 with
 | .int i=>al (al i,p.2)
 | _=>am
def cutD (xs:List c)(lo h:Option Int):List c:=(xs.drop<|bh xs.length 0 lo).take (bh xs.length xs.length h-bh xs.length 0 lo)
def gZ:Dat->Option Int->Option Int->Option Res
 | .L ds,lo,c=>al (.O<|.L<|cutD ds lo c)
 | .cw h,lo,c=>al (.O<|.L<|(cutD h lo c).map Dat.int)
 | .U ds,lo,c=>if bh ds.length 0 lo=0/\bh ds.length ds.length c=ds.length then am else al (.D<|.U<|cutD ds lo c)
 | _,_,_=>am
def kW(f:DF)(l h:OF):EF:=λZ=>(f Z).bind λp=>(l p.2).bind λq=>(h q.2).bind λr=>(gZ p.1 q.1 r.1).map λo=>(o,r.2)
def Pd(c)(lo h):jL (c.map V.int) lo h=(cutD c lo h).map V.int:=by delta jL cutD;rw[bt,Yl,Ym]
theorem aw.take:∀{ds:List Dat}{vs:List V}(n:Nat),aw K H ds vs->aw K H (ds.take n) (vs.take n)
 | [],_,n,h=>by simp only[show _=[] from h,aco,aco];exact ρ
 | _::_,_,0,c=>by obtain⟨v,r,e,q,t⟩:=c;rw[e];exact ρ
 | _::_,_,n+1,c=>by obtain⟨v,r,e,q,t⟩:=c;exact⟨v,r.take n,by rw[e];rfl,q,aw.take n t⟩
theorem aw.drop:∀{ds:List Dat}{vs:List V}(n:Nat),aw K H ds vs->aw K H (ds.drop n) (vs.drop n)
 | [],_,n,h=>by simp only[show _=[] from h,acp,acp];exact ρ
 | _::_,_,0,h=>h
 | _::_,_,n+1,c=>by obtain⟨v,r,e,q,t⟩:=c;rw[e];exact aw.drop n t
def aw.cut (lo c:Option Int)(r:aw K H ds vs):aw K H (cutD ds lo c) (jL vs lo c):=by delta cutD jL;rw[r.length];exact aw.take _<|aw.drop _ r
def Qz:DO X am qF:=⟨_,Jo,λH0 ps Z σ H Hi o Z' Q e S k=>by obtain⟨rfl,rfl⟩:=sP e;exact k H Hi S<|ag.refl _⟩
def To (h:DD X e f):DO X (al e) (mh f):=by
 obtain⟨t,p,q⟩:=h;refine⟨_,Rv p,λH0 ps Z σ H Hi o Z' Q e S k=>?_⟩;obtain⟨d,Z1,j,e⟩:=oB e;dsimp only at e;split at e
 ·obtain⟨rfl,rfl⟩:=sP e;exact q H0 ps Z σ H Hi _ _ _ j S λv H' c l s' r=>⟨_,r,k H' c l s'⟩
 exact nO e
theorem L5{f:DF}{l h:OF}{lo E:Option hH}(J:DD X e f)(hl:DO X lo l)(hh:DO X E h):DE X (.Subscript e (.Slice lo E am p2) pos) (kW f l h):=by
 obtain⟨t,p,q⟩:=J;obtain⟨tl,L,M⟩:=hl;obtain⟨th,N,O⟩:=hh;refine⟨_,K3 (md.or NP JT) p L N,λH0 ps Z σ H Hi o Z' Q j S k=>?_⟩;obtain⟨d,Z1,R,j⟩:=oB j;cases B:l Z1 with
 | none=>rw[B] at j;exact nO j
 | some U =>
  obtain⟨a,Z2⟩:=U;rw[B] at j;simp at j;obtain⟨b,Z3,V,j⟩:=oB j;dsimp only at j;obtain⟨o',n,j⟩:=oM j;cases j;refine q H0 ps Z σ H Hi d Z1 _ R S λv W F Y C r1=>?_;refine M H0 ps Z1 σ W F a Z2 _ B Y λH2 G S2 u=>?_;refine O H0 ps Z2 σ H2 G b _ _ V S2 λH3 A c y=>?_;have D:=Rep.mono (u.trans y) r1;cases d with
  | L ds =>
   cases sO n;obtain⟨p,vs,rfl,s,rs⟩:=D;refine ι ⟨p,vs,ρ,ι<|Rd.mono c.sub s,λz m=>?_⟩;exact k (.ref z) _ A (c.made m) ((C.trans u).trans y) ⟨z,ρ,⟨_,aT,aw.cut a b rs,c.cX m⟩,(c.bB m).2,(c.bB m).1,c.dO m⟩
  | cw ns=>obtain rfl:=sO n;obtain⟨p,rfl,s⟩:=D;refine ι ⟨p,_,ρ,bA.mono c.sub s,λz m=>?_⟩;exact k (.ref z) _ A (c.made m) ((C.trans u).trans y) ⟨z,ρ,⟨_,aT,by rw[Pd];exact aw.ints _,c.cX m⟩,(c.bB m).2,(c.bB m).1,c.dO m⟩
  | U ds =>
   have n:(if bh ds.length 0 a=0/\bh ds.length ds.length b=ds.length then am else al (Res.D<|.U<|cutD ds a b))=al o:=n;split at n
   ·exact nO n
   rename_i hn;obtain rfl:=sO n;obtain⟨p,vs,rfl,s,rs⟩:=D;refine τ ⟨p,vs,ρ,aS.mono c.sub s,by rw[rs.length];exact hn,λz m=>?_⟩;obtain⟨S4,I⟩:=c.laid m;exact k (.ref z) _ _ S4 (((C.trans u).trans y).trans I) ⟨z,_,ρ,aS.of aT,aw.mono I<|aw.cut a b rs⟩
  | _=>exact nO n
noncomputable def tF(k:Nat)(p:dn):Nat->Option Addr:=λm=>if m=k then al p else am
def zU{k:Nat}{p b:dn}(h:gx (tF k p) b):b=p:=by obtain⟨m,z⟩:=h;unfold tF at z;simp_all
def Jb{caps:List (Option Nat)}{Z:DS}{H Hi:Hp}{k j:Nat}{p:dn}{c:Dat}(S:SR K H0 ps Z σ H Hi)(u:caps[k]?=al (al j))(ep:σ[j]?=al (al<|.ref p))(y:cx K H Hi p c) :
  SR K (H,Hi) (tF k p) ((b8 caps Z).set k (.io c)) (eM caps σ) H Hi:=by
 have A:k<(b8 caps Z).length:=by delta b8;rw[bt];exact (cm.1 u).1
 have other:∀{m:Nat}{s:Slot},m≠k->((b8 caps Z).set k (.io c))[m]?=al s->(b8 caps Z)[m]?=al s:=λ{m s} n h=>by rwa[gD (Ne.symm n)] at h
 have aau:∀{s:Slot},((b8 caps Z).set k (.io c))[k]?=al s->s=.io c:=λ{s} h=>by rw[ka A] at h;exact (Option.some.inj h).symm
 have t:∀{m:Nat}{d:Dat},(((b8 caps Z).set k (.io c))[m]?=al (.O d)\/((b8 caps Z).set k (.io c))[m]?=al (.io d))->m=k:=λ{m d} h=>by
  by_cases n:m=k
  ·exact n
  rcases h with h|h
  ·exact absurd (other n h) mU.1
  exact absurd (other n h) mU.2
 refine⟨S.sub,λb o e _=>e,λq l=>?_,λm d e=>?_,λm d e=>?_,λm d e=>?_,λm m' d d' q B C _ _=>(t B).trans (t C).symm,?_,λq o e=>ι e⟩
 ·rw[zU l];obtain⟨⟨o,e⟩,_⟩:=y.some;rw[e];simp
 ·have n:m≠k:=λz=>by subst z;cases aau e
  obtain⟨D,E,F⟩:=GA<|other n e;obtain⟨v,a,b⟩:=S.D D d F;exact⟨v,yU E a,b⟩
 ·have n:=t<|ι e;subst n;cases aau e
 ·have n:=t<|τ e;subst n;cases aau e;exact⟨p,yU u ep,y,by unfold tF;rw[if_pos ρ]⟩
 simp[b8,eM]
theorem BH{caps:List (Option Nat)}{kb j:Nat}{L:TI}{fi:IF}{g:GF}{fc:BF}{fe:DF}
 (qi:∀(H0:Hp×Hp) (ps:Nat->Option dn) (Z:DS) (σ:St) (H Hi:Hp) (items:List Dat) (Z':DS) (R:It->Hp->Prop),fi Z=al (items,Z')->SR X.K H0 ps Z σ H Hi->(∀J F z,SR X.K H0 ps Z' σ F z->ag Hi z->JW X.K J items z->R J F)->L σ H R)
 (H0:Hp×Hp)(ps:Nat->Option dn)(Z:DS)(σ:St)(H Hi:Hp)(r:Res)(Z':DS)(Q:VK)(h:dJ caps (al (kb,j)) fi g fc fe Z=al (r,Z'))(S:SR X.K H0 ps Z σ H Hi)
 (k:∀v H' t,SR X.K H0 ps Z' σ H' t->ag Hi t->RR X.K H0 ps Z' σ H' t v r->Q v H'):sx (eM caps) L (kP X.K g) (lI X.K fc) (kO X.K fe) σ H Q:=by
 obtain⟨items,Z1,e1,h⟩:=oB h;dsimp only at h;split at h
 ·rename_i ek;refine qi H0 ps Z σ H Hi items Z1 _ e1 S λJ F z S1 s1 jw=>?_;intro D M;obtain⟨Hi2,I,N⟩:=qy (al (kb,j)) caps S1;have go:∀(io:Bool) (c:Dat),(aV (al (kb,j)) caps Z1)[j]?=al (kindAt io c)->∀(n:List Dat) (u:DS) (c':Dat),compLoop g fc fe items [] ((b8 caps<|aV (al (kb,j)) caps Z1).set kb (.io c))=al (n,u)->u[kb]?=al (.io c') ->
    r=.O (.L n)->Z'=(aV (al (kb,j)) caps Z1).set j (kindAt io c') ->
    ∃W:Nat->Nat->St->Hp->Prop,(∃m,W 0 m (eM caps σ)<|upd F D<|.L [])/\∀i m σ' H',W i m σ' H'->(J.stop i H'/\Q (.ref D) H')\/(J.go i H'/\∀x G,J.mE i H' x G->kP X.K g x σ' G λA H2=>lI X.K fc A H2 λb O =>
     if b=bi then kO X.K fe A O λy U=>∃ys,U D=al (.L ys)/\ys.length<dk/\∃C,C<m/\W (i+1) C A (upd U D<|.L<|ys++[y])
     else ∃C,C<m/\W (i+1) C A O):=by
   intro io c B n u c' s E er ed;subst er;subst ed;obtain⟨p,ep,op⟩:=I.at B;refine Ft (Jb I ek ep op) (by
     delta noOwn;rw[mA];intro s j;rcases List.mem_or_eq_of_mem_set j with h|h
     ·exact mA.1 (Dz) s h
     rw[h]) M (jw.mono N) s fun σ' H' t vs V sm Y nb eD ra hd=>?_
   obtain⟨q,_,oq,eq⟩:=V.io kb c' E;have hq:=zU ⟨kb,eq⟩;subst hq;obtain⟨S3,rr⟩:=I.CK (r:=.O<|.L n) B ep (λb o e hb=>Y b o e λl=>hb<|zU l) sm V.sub nb oq ⟨D,ρ,⟨vs,eD,ra,hd⟩,M⟩;exact k (.ref D) H' t S3 ((s1.trans N).trans sm) rr
  split at h
  ·rename_i c B;cases s:compLoop g fc fe items [] ((b8 caps<|aV (al (kb,j)) caps Z1).set kb (.io c)) with
   | none=>rw[s] at h;exact nO h
   | some q =>
    obtain⟨n,u⟩:=q;rw[s] at h;simp at h;split at h
    ·rename_i c' E;cases h;exact go false c B n u c' s E ρ ρ
    cases h
  ·rename_i c B;cases s:compLoop g fc fe items [] ((b8 caps<|aV (al (kb,j)) caps Z1).set kb (.io c)) with
   | none=>rw[s] at h;exact nO h
   | some q =>
    obtain⟨n,u⟩:=q;rw[s] at h;simp at h;split at h
    ·rename_i c' E;cases h;exact go true c B n u c' s E ρ ρ
    cases h
  exact nO h
 exact nO h
def NL{NB:List e6}{caps:List (Option Nat)}{scope:Xp}{elt iter l:hH}{ifs:List hH}{fi:IF}{g:GF}{fc:BF}{fe:DF}(kb j:Nat)(n:X.calm=bi)(B:iX X.env.scope scope)(m:gA X.N NB scope caps=bi)(o:cO X l iter fi)
 (q:∀(h:List (e6×dn)) (C:dn) (c:ey) (H:Hp) (k:List dn),DG (bT X NB scope h C c H k) l g)(s:∀(h:List (e6×dn)) (C:dn) (c:ey) (H:Hp) (k:List dn),kK (bT X NB scope h C c H k) ifs fc)
 (t:∀(h:List (e6×dn)) (C:dn) (c:ey) (H:Hp) (k:List dn),DD (bT X NB scope h C c H k) elt fe)(u:∀x,ti iter X.env x=pure x:=by intro _;rfl) :
  DE X (.ListComp elt [⟨l,iter,ifs,0⟩] scope pos) (dJ caps (al (kb,j)) fi g fc fe):=by
 obtain⟨wi,y,z⟩:=o;exact⟨_,F5 (tc:=lI X.K fc) n B m y (λh C c H k=>⟨(q h C c H k).kD,s h C c H k,(t h C c H k).kD⟩) u,BH z⟩
theorem QA{NB:List e6}{caps:List (Option Nat)}{scope:Xp}{elt iter n:hH}{ifs:List hH}{fi:IF}{g:GF}{fc:BF}{fe:DF}{y:e6}{py m:H9}(kb j i:Nat)(z:X.N.Nodup)(s:X.N[i]?=al y)(A:Loc X.env.scope y)
 (E:X.fn y=bi\/X.env.scope.names.lookup y=some .local)(F:X.calm=bi)(B:iX X.env.scope scope)(q:gA X.N NB scope caps=bi)(G:cO X n iter fi)
 (I:∀(h:List (e6×dn)) (C:dn) (c:ey) (H:Hp) (l:List dn),DG (bT X NB scope h C c H l) n g)(J:∀(h:List (e6×dn)) (C:dn) (c:ey) (H:Hp) (l:List dn),kK (bT X NB scope h C c H l) ifs fc)
 (L:∀(h:List (e6×dn)) (C:dn) (c:ey) (H:Hp) (l:List dn),DD (bT X NB scope h C c H l) elt fe)
 (t:Fs (.ListComp elt [⟨n,iter,ifs,0⟩] scope pos) (al<|.Name y py) m.line X.env=pure true)(M:∀x,ti iter X.env x=pure x:=by intro _;rfl) :
  cg X (.Assign [.Name y py] (.ListComp elt [⟨n,iter,ifs,0⟩] scope pos) m) (gQ i<|dJ caps (al (kb,j)) fi g fc fe):=by
 obtain⟨wi,O,Q⟩:=G;refine⟨_,Ax (NB:=NB) (caps:=caps) (g:=kP X.K g) (tc:=lI X.K fc) (te:=kO X.K fe) z s A F B q O (fun h C c H l=>⟨(I h C c H l).kD,J h C c H l,(L h C c H l).kD⟩) t M E,fun H0 ps Z σ H Hi o D e S k=>?_⟩;unfold gQ at e;obtain⟨r,Z1,R,e⟩:=oB e;obtain⟨Z2,U,e⟩:=oM e;obtain rfl:=sO e;exact BH Q H0 ps Z σ H Hi r Z1 _ R S fun v H' u V s' W=>k _ H' u (V.put W U) s'
end
def pN(d:Dat)(ds:List Dat):Option Nat:=(cZ ds).findIdx? λy=>Xq y<|toPy d
def EO(K:ft):V->List V->Hp->VK->Prop:=λx vs H Q=>∃Hi ds d y p a j,x=.ref p/\vs=[y]/\ag Hi H/\Rd H p (.L a)/\aw K Hi ds a/\Rep K Hi d y/\bJ (.L ds)=bi/\bJ d=bi/\pN d ds=al j/\Q (.int (j:Int)) H
section
variable{X:Cx}
def TX(B:X.A.units+65<zR):uv X "list.index" (EO X.K):=by
 intro pins s σ H x vs v us Q I rx C h;obtain⟨Hi,ds,d,y,p,ws,j,rfl,rfl,sm,D,rs,E,c,b,G,q⟩:=h;subst rx;obtain⟨u,rfl,J⟩:=C.one;obtain⟨z,its,n,f,e⟩:=D.ok I.ak;have c:=kx.1 c;have b:=kx.1 b;obtain⟨as,i⟩:=vy I sm (c.1) rs f;obtain⟨bs,L⟩:=j3 I sm b.1 E J;have k:=se c.2;have M:=se b.2;have l:=SeqAt.readsAll_map _ _ _ k i;obtain⟨hj,hit,o⟩:=X4.1 G;have hl:its.length=(cZ ds).length:=by simp only[<-l,bt]
 have get:∀(m:Nat) (h:m<its.toArray.size),Yu s.heap its.toArray[m]=(cZ ds)[m]'(by simp_all):=λm h=>by
  have a:(its.map<|Yu s.heap)[m]?=al (Yu s.heap its.toArray[m]):=by
   rw[c6];have:its[m]?=al its.toArray[m]:=by simp
   rw[this];rfl
  rw[l] at a;rw[cn (by rw[<-hl];simpa using h)] at a;exact (Option.some.inj a).symm
 have g:j<its.toArray.size:=by simp_all
 have hz:=f.length;have l63:=kZ;refine YV aa9 ⟨_,e,ρ⟩ F.entry_list_index (F.args_list_index_2 _ _)
  (SeqAt.list_indexAt p its.toArray n am #[] u (λw=>Xq (Yu s.heap w)<|toPy d) j g ?_ ?_ λm r t=>?_) ⟨e,SeqAt.items_eqAt (by simpa using i) L k M<|YX b.2 B,?_⟩
 lia
 ·rwa[get j g]
 ·rw[get m r];exact Bool.eq_false_iff.2<|o m t
 exact⟨.int (j:Int),H,I.tok _,⟨_,ρ⟩,q⟩
def qM(f:DF)(fa:AF):DF:=λZ=>(f Z).bind λp=>(fa p.2).bind λq=>match p.1,q.1 with
 | .L ds,[d]=>if bJ (.L ds)&&bJ d then (pN d ds).map λj:Nat=>(.int (j:Int),q.2) else am
 | _,_=>am
theorem KQ (B:DD X o f)(C:DA X [e] fa)(D:∀{to:TE}{t:TA},PE X o to->PA X [e] t->PE X (.Call (.Attribute o "index" g) [e] [] pos) (mn X.K "list" (EO X.K) to t)):DD X (.Call (.Attribute o "index" g) [e] [] pos) (qM f fa):=by
 obtain⟨to,E,F⟩:=B;obtain⟨t,p,q⟩:=C;refine⟨_,D E p,λr s Z σ H Hi d Z' Q b S k=>?_⟩;obtain⟨c,Z1,G,b⟩:=oB b;cases l:fa Z1 with
 | none=>rw[l] at b;exact nO b
 | some ap =>
  obtain⟨as,Z2⟩:=ap;rw[l] at b;dsimp only[ma] at b;split at b
  ·rename_i ds x;split at b
   ·rename_i h;have h:=kx.1 h;obtain⟨j,I,b⟩:=oM b;obtain⟨rfl,rfl⟩:=sP b;refine F r s Z σ H Hi _ Z1 _ G S λv J u w L M=>?_;obtain⟨a,z,rfl,A,rs⟩:=M;refine⟨ι ⟨ρ,z,ι<|Rd.mono w.sub A⟩,q r s Z1 σ J u _ _ _ l w λvs N i m n O=>?_⟩;obtain⟨y,yr,rfl,P,R⟩:=O;subst R;exact⟨i,ds,x,y,a,z,j,ρ,ρ,m.sub,Rd.mono m.sub<|Rd.mono n A,aw.mono n rs,P,h.1,h.2,I,k _ N i m (L.trans n) ρ⟩
   exact nO b
  exact nO b
end
def PE.or (h:PE X e t)(h':PE X e u):PE X e (fun σ H Q=>t σ H Q\/u σ H Q):=λa s σ H Q I q=>q.elim (h a s σ H Q I)<|h' a s σ H Q I
def PS.or (h:PS X e t)(h':PS X e u):PS X e (λD σ H=>t D σ H\/u D σ H):=λa s σ H D I q=>q.elim (h a s σ H D I)<|h' a s σ H D I
def PG.or (h:PG X e t)(h':PG X e u):PG X e (λv σ H Q=>t v σ H Q\/u v σ H Q):=λa s σ H v z Q I r q=>q.elim (h a s σ H v z Q I r)<|h' a s σ H v z Q I r
def Sh(n:Nat)(t:jE):TG:=λv σ H Q=>∃a xs,v=.ref a/\Rd H a (.L xs)/\xs.length=n/\t xs σ H Q
section
variable{X:Cx}{pos:H9}{K:ft}{H:Hp}{a b e:hH}{es:List hH}
def R3 (g:X.calm=bi)(h:pK X es t)(i:(t9 es X.env).length=n:=by rfl)(d:(t9 es X.env).findIdx? (·.1)=am:=by rfl):PG X (.Tuple es k pos) (Sh n t):=by intro c s σ H v u Q I r hw;obtain⟨a,xs,j,l,hl,hw⟩:=hw;subst j;subst r;obtain⟨z,its,m,f,e⟩:=l.ok I.ak;have p:s.heap.IsList a its.toArray:=⟨_,e,ρ,m,ρ⟩;refine cW<|ZZ ?_;delta unpack;rw[show (t9 es X.env).length=its.toArray.size by simp[i,<-hl,f.length],d];refine cW<|u5 (W.kun_itemsOf (I.ok.hd g) p λh' hx=>?_);have q:=I.kept (t':=s.toks) λb o e=>hx b o (hQ<|gg e) e;exact h c _ σ H xs _ Q q (f) hw
noncomputable def Bg(n:Nat)(c:List Dat->DS->Option DS):GF
 | .U ds,Z=>if ds.length=n then c ds Z else am
 | .L ds,Z=>if ds.length=n then c ds Z else am
 | _,_=>am
def JA (i:X.calm=bi)(h:nC X es g)(j:(t9 es X.env).length=n:=by rfl)(c:(t9 es X.env).findIdx? (·.1)=am:=by rfl):DG X (.Tuple es k pos) (Bg n g):=by
 obtain⟨t,p,q⟩:=h;refine⟨_,PG.or (zD i p j c)<|R3 i p j c,λl m Z σ H Hi d Z' v Q e S r k=>?_⟩;unfold Bg at e;split at e
 ·split at e
  ·rename_i hl;obtain⟨a,vs,rfl,f,rs⟩:=r;exact ι ⟨a,vs,ρ,aS.mono S.sub f,by rw[rs.length];exact hl,q l m Z σ H Hi _ Z' vs Q e S rs k⟩
  cases e
 ·split at e
  ·rename_i hl;obtain⟨a,vs,rfl,f,rs⟩:=r;exact τ ⟨a,vs,ρ,Rd.mono S.sub f,by rw[rs.length];exact hl,q l m Z σ H Hi _ Z' vs Q e S rs k⟩
  cases e
 exact nO e
noncomputable def Bx:Dat->String
 | .aU=>"NoneType" | .bl _=>"bool" | .int _=>"int" | .str _=>"str" | .U _=>"tuple" | .L _=>"list" | .bV _=>"dict" | .exc _=>"" | .ins _ _=>"" | .cw _=>"" | .adr _=>"" | .d9 _=>"" | .aN _ _=>""
noncomputable def wo(T c:String):Bool:=T==c||(T == "bool" && c == "int")
noncomputable def wZ:List String:=["tuple","list","str","int","bool"]
def Pn:∀T∈["NoneType","bool","int","str","tuple","list","dict"],∀c∈wZ,W.kitOne [] (.type T) (.type c)=al (wo T c):=by decide +kernel
def nZ (h:T∈["NoneType","bool","int","str","tuple","list","dict"])(h':c∈wZ):W.kitOne K (.type T) (.type c)=al (wo T c):=by rw[<-Pn T h c h'];rfl
noncomputable def isExc:Dat->Bool
 | .exc _=>true
 | .ins _ _=>true
 | .cw _=>true
 | .adr _=>true
 | .d9 _=>true
 | .aN _ _=>true
 | _=>false
def sU(d:Dat)(T:String):Option Bool:=if isExc d=bn/\T∈wZ then al (wo (Bx d) T) else am
def Ka(K:ft):List V->Hp->VK->Prop:=λxs H Q=>∃Hi d x T b,xs=[x,.ty T]/\ag Hi H/\Rep K Hi d x/\sU d T=al b/\Q (.bl b) H
theorem OH:bP X (.builtin "isinstance") (Ka X.K):=by
 intro m s σ H xs us Q I r h;obtain⟨Hi,d,x,T,b,rfl,sm,g,e,q⟩:=h;obtain⟨u,c,rfl,j,v⟩:=r.two;subst v;delta sU at e;split at e
 case isFalse=>exact nO e
 case isTrue hh =>
  obtain rfl:=sO e;obtain⟨hx,k⟩:=hh;have f:∀tk,EP X m σ Q (.bool<|wo (Bx d) T) {s with toks:=tk}:=λtk=>⟨.bl _,H,I.tok _,ρ,q⟩;cases d with
  | aU=>subst g;subst j;exact Y' W.kitx_none I.ik Yf (nZ ⋯ k) (λz=>nomatch z) f
  | bl y=>subst g;subst j;exact Y' W.kitx_bool I.ik Yf (nZ ⋯ k) (λz=>nomatch z) f
  | int i=>subst g;obtain⟨t,rfl⟩:=j;exact Y' W.kitx_int I.ik Yf (nZ ⋯ k) (λz=>nomatch z) f
  | str y=>subst g;obtain⟨t,rfl⟩:=j;exact Y' W.kitx_str I.ik Yf (nZ ⋯ k) (λz=>nomatch z) f
  | U ds=>obtain⟨p,vs,rfl,w,_⟩:=g;cases j;obtain⟨its,_,⟨o,l,A,_⟩,_⟩:=I.tuple<|aS.mono sm w;exact Y' W.kitx_tuple I.ik ⟨o,l,A⟩ (nZ ⋯ k) (λz=>nomatch z) f
  | L ds=>obtain⟨p,vs,rfl,w,_⟩:=g;cases j;obtain⟨z,its,n,_,l⟩:=(Rd.mono sm w).ok I.ak;exact Y' W.kitx_list I.ik ⟨_,l,ρ⟩ (nZ ⋯ k) (λz=>nomatch z) f
  | bV B=>obtain⟨p,kvs,rfl,D,_⟩:=g;cases j;obtain⟨_,_,ws,_,o,es,ep,l,A,_⟩:=I.ak p _<|sm _ _ D;exact Y' W.kitx_dict I.ik ⟨o,l,A.1⟩ (nZ ⋯ k) (λz=>nomatch z) f
  | exc C=>contradiction
  | ins C fs=>contradiction
  | cw ns=>contradiction
  | adr p=>contradiction
  | d9 B=>contradiction
  | aN fz B=>contradiction
def mQ(T:String)(f:DF):DF:=λZ=>(f Z).bind λp=>(sU p.1 T).map λb=>(.bl b,p.2)
def xJ (s:DD X e f)(j:Gl X "isinstance")(l:X.mg "isinstance"=am)(m:Gl X g)(n:X.mg g=am)(u:Xf g=al (.type T))(w:g≠"__name__":=by decide)(hd:bD g:=by decide)(o:bN X e [.Name g q]:=by rfl):DD X (.Call (.Name "isinstance" p) [e,.Name g q] [] pos) (mQ T f):=by obtain⟨t,x,y⟩:=s;refine⟨_,wd OH j l (by decide +kernel) (gw x (gw (KN (v:=.ty T) m n u ρ w hd) il ρ) o) ⋯ ρ o ρ,λz A Z σ H Hi d Z' Q h S k=>?_⟩;obtain⟨c,Z1,B,h⟩:=oB h;obtain⟨b,C,h⟩:=oM h;obtain⟨rfl,rfl⟩:=sP h;exact y z A Z σ H Hi c _ _ B S λv D i r E F=>⟨i,c,v,T,b,ρ,r.sub,F,C,k _ D i r E ρ⟩
def p9(neg:Bool):R2:=λy x H Q=>∃a o,x=.ref a/\jx H a y o/\Q (.bl (if neg then !o.isSome else o.isSome)) H
def xp(c:X.A.units+1<zR):aQ X (mu .In) (p9 false):=by intro pins s σ H x y v u Q I rx d h;obtain⟨a,o,rfl,g,q⟩:=h;subst d;exact Rm c I g rx λs' f=>⟨.bl _,H,f,ρ,q⟩
def E8(c:X.A.units+1<zR):aQ X (mu .NotIn) (p9 true):=by intro pins s σ H x y v u Q I rx d h;obtain⟨a,o,rfl,g,q⟩:=h;subst d;exact J0 c I g rx λs' f=>⟨.bl _,H,f,ρ,q⟩
def MT:bP X (.type "dict") (λxs H Q=>∃a kvs,xs=[.ref a]/\Rd H a (.dK kvs)/\∀p,H p=am->Q (.ref p) (upd H p<|.dK kvs)):=by intro pins s σ H xs us Q I r h;obtain⟨a,kvs,rfl,c,q⟩:=h;obtain⟨u,rfl,d⟩:=r.one;subst d;exact Nx I c λp s' f g=>⟨.ref p,_,g,ρ,q p f⟩
noncomputable def dN(c:List (e6×Dat))(k:e6):Option Dat:=(c.find? λp=>bd<|p.1=k).map (·.2)
def Ay(c:List (e6×Dat))(k:e6)(d:Dat):List (e6×Dat):=if (dN c k).isSome=bi then c.map (λp=>if p.1=k then (p.1,d) else p) else c++[(k,d)]
theorem bC.find:∀{c:List (e6×Dat)}{kvs:List (Key×V)}(k:e6),bC K H c kvs->(∀d,dN c k=al d->∃v,fM kvs (uy k)=al v/\Rep K H d v)/\(dN c k=am->fM kvs (uy k)=am)
 | [],_,k,h=>by rw[show _=[] from h];exact⟨λd z=>by simp[dN] at z,λ_=>rfl⟩
 | (f,d')::c,_,k,j=>by
  obtain⟨v,r,e,q,t⟩:=j;rw[e];obtain⟨a,b⟩:=bC.find k t;by_cases g:f=k
  ·subst g;have i:dN ((f,d')::c) f=al d':=by simp[dN]
   rw[i,rO ρ];exact⟨λd z=>⟨v,ρ,by obtain rfl:=sO z;exact q⟩,λz=>by contradiction⟩
  have i:dN ((f,d')::c) k=dN c k:=by simp[dN,g]
  rw[i,rV (by simpa using g)];exact⟨a,b⟩
theorem bC.has (k:e6)(h:bC K H c kvs):(fM kvs<|uy k).isSome=(dN c k).isSome:=by
 obtain⟨a,b⟩:=h.find k;cases e:dN c k with
 | none=>rw[b e];rfl
 | some d=>obtain⟨v,f,_⟩:=a d e;rw[f];rfl
theorem bC.jV:∀{c:List (e6×Dat)}{kvs:List (Key×V)}(k:e6) {d:Dat}{v:V},bC K H c kvs->Rep K H d v->bC K H (c.map λp=>if p.1=k then (p.1,d) else p) (kvs.map λp=>if p.1=uy k then (p.1,v) else p)
 | [],_,k,_,_,h,_=>by simp only[show _=[] from h];exact ρ
 | (i,d')::c,_,k,d,v,j,f=>by
  obtain⟨w,r,e,q,t⟩:=j;rw[e,iW,iW];by_cases g:i=k
  ·subst g;rw[if_pos ρ,if_pos ρ];exact⟨v,_,ρ,f,bC.jV i t f⟩
  rw[if_neg g,if_neg (by simpa using g)];exact⟨w,_,ρ,q,bC.jV k t f⟩
theorem bC.snoc:∀{f:List (e6×Dat)}{kvs:List (Key×V)}(k:e6) {d:Dat}{v:V},bC K H f kvs->Rep K H d v->bC K H (f++[(k,d)]) (kvs++[(uy k,v)])
 | [],_,k,_,v,h,c=>by rw[show _=[] from h];exact⟨v,[],ρ,c,ρ⟩
 | (_,_)::_,_,k,_,_,g,c=>by obtain⟨w,r,e,q,t⟩:=g;exact⟨w,r++_,by rw[e];rfl,q,bC.snoc k t c⟩
def bC.put (k:e6)(h:bC K H c kvs)(f:Rep K H d v):bC K H (Ay c k d) (putK kvs (uy k) v):=by
 delta Ay putK;rw[vz,h.has k];split
 ·exact h.jV k f
 exact h.snoc k f
def cp:Dat->Dat->Option Dat
 | .bV d,.str k=>dN d k
 | c,n=>r6 c n
def rL(f g:DF):DF:=λZ=>(f Z).bind λp=>(g p.2).bind λq=>(cp p.1 q.1).map λd=>(d,q.2)
def jr(i:Nat)(g:DF):DF:=λZ=>((Z[i]?).bind j8).bind λ_=>(g Z).bind λq=>((q.2[i]?).bind j8).bind λc=>(cp c q.1).map λd=>(d,q.2)
theorem QT (i:Nat)(R:X.A.units+1<zR)(z:X.N[i]?=al x)(B:cj X.env.scope x)(T:DD X b g)(C:oU b)(hd:bD x:=by decide)(q:cH x:=by decide):DD X (.Subscript (.Name x P) b pos) (jr i g):=by
 obtain⟨tb,D,E⟩:=T;refine⟨_,PE.or (Fg BG (fh z B hd q) D C)<|zV R (fh z B hd q) D C,λF G Z σ H Hi d Z' Q e S k=>?_⟩;unfold jr at e;obtain⟨c0,U,e⟩:=oA e;obtain⟨n,Z2,I,e⟩:=oB e;obtain⟨c,J,e⟩:=oA e;dsimp only at e;cases l:cp c n with
 | none=>rw[l] at e;exact nO e
 | some d' =>
  rw[l] at e;cases e;obtain⟨L,m,_⟩:=S.peek U;by_cases hd:∃M o,c=.bV M/\n=.str o
  ·obtain⟨M,o,rfl,rfl⟩:=hd;refine τ ⟨L,m,E F G Z σ H Hi _ _ _ I S λy r f h s t=>?_⟩;obtain⟨V,j,u⟩:=h.peek J;rw[m] at j;cases j;obtain⟨p,kvs,rfl,W,Y⟩:=u;subst t;obtain⟨v,ev,w⟩:=(Y.find o).1 d l;refine⟨p,v,ρ,?_,k v r f h s w⟩;rw[<-ev];exact jx.k (k:=uy o) W
  have O:r6 c n=al d:=by unfold cp at l;simp_all
  refine ι ⟨L,m,E F G Z σ H Hi _ _ _ I S λy r f h s t=>?_⟩;obtain⟨V,j,u⟩:=h.peek J;rw[m] at j;cases j;exact Fy u t O λv w=>k v r f h s w
def dU(neg:Bool):Dat->Dat->Option Res
 | .str k,.bV c=>al (.D<|.bl (if neg then !(dN c k).isSome else (dN c k).isSome))
 | .str k,.d9 c=>al (.D<|.bl (if neg then !(dN c k).isSome else (dN c k).isSome))
 | d,e=>A8 neg d e
def vK:fF X (λx y H Q=>pP X.K neg x y H Q\/p9 neg x y H Q) (dU neg):=by
 intro i j Z σ H Hi x y d d' o Q e S rx f k;delta dU at e;split at e
 ·cases e;rename_i c l;cases rx;obtain⟨p,kvs,rfl,g,h⟩:=f;refine τ ⟨p,_,ρ,jx.k (k:=uy c)<|S.sub _ _ g,?_⟩;rw[h.has c];exact k _ H Hi S (ag.refl _) ρ
 ·cases e;rename_i c l;cases rx;obtain⟨p,m,kvs,rfl,g,h⟩:=f;refine τ ⟨p,_,ρ,ι ⟨kvs,uy c,τ ⟨m,S.sub _ _ g⟩,ρ,ρ⟩,?_⟩;rw[h.has c];exact k _ H Hi S (ag.refl _) ρ
 exact ι<|Qo i j Z σ H Hi x y _ _ o Q e S rx f k
theorem FK(c:X.A.units+65<zR):aQ X (mu .In) (fun x y H Q=>pP X.K false x y H Q\/p9 false x y H Q):=aQ.or (OK c)<|xp (by lia)
theorem Bj(c:X.A.units+65<zR):aQ X (mu .NotIn) (fun x y H Q=>pP X.K true x y H Q\/p9 true x y H Q):=aQ.or (OQ c)<|E8 (by lia)
noncomputable def FJ:List Dat->Option Res
 | [.bV c]=>al (.O<|.bV c)
 | _=>am
def KG:CD X (λxs H Q=>∃a kvs,xs=[.ref a]/\Rd H a (.dK kvs)/\∀p,H p=am->Q (.ref p) (upd H p<|.dK kvs)) FJ:=by
 intro H0 ps Z σ H Hi vs ds o Q e S r k;delta FJ at e;split at e
 ·obtain rfl:=sO e;obtain⟨v,vr,rfl,⟨p,kvs,rfl,d,f⟩,g⟩:=r;subst g;refine⟨p,kvs,ρ,Rd.of<|S.sub _ _ d,λq c=>?_⟩;exact k (.ref q) _ Hi (S.made c) (ag.refl _) ⟨q,ρ,⟨kvs,aT,f,S.cX c⟩,(S.bB c).2,(S.bB c).1,S.dO c⟩
 exact nO e
theorem Cd (a):∀(n:Nat) (b:Array c),(C' n a).foldl (λx y=>x++y) b=b++(C' n a.toList).flatten.toArray
 | 0,b=>⋯
 | n+1,b=>by rw[abj,aak,Cd a n,abj,List.flatten_cons,abm];congr 1;apply acV;simp
theorem xT{f g:Type}{R:List f->List g->Prop}(i:R [] [])(j:∀{a b c d},R a b->R c d->R (a++c) (b++d)){a:List f}{b:List g}(h:R a b):∀n,R (C' n a).flatten (C' n b).flatten
 | 0=>i
 | n+1=>j h<|xT i j h n
theorem Ri{f g:Type}{R:f->g->Prop}{a:List f}{b:List g}{c:List f}{d:List g}(p:XW R a b)(h:XW R c d):XW R (a++c) (b++d):=by
 induction p with
 | nil=>exact h
 | cons r _ i=>exact .cons r i
def Ck:R2:=λx y H Q=>∃l xs n,x=.ref l/\y=.int n/\Rd H l (.L xs)/\(0<=n/\n<=2/\xs.length<=1000)/\∀p,H p=am->Q (.ref p) (upd H p<|.L (C' n.toNat xs).flatten)
noncomputable def Bm(x:e6):It:=⟨λi _=>i<x.cps.size,λi H v H'=>H'=H/\∃c,x.cps[i]?=al c/\v=.str ⟨#[c]⟩,λi _=>x.cps.size<=i⟩
def Jr (x)(t)(it):Turn P w K C (Bm x) [it] it (λi h=>h.IsStrIter it "str_ascii_iterator" x t i) where
 mem:=by simp
 obj:=λi h st b f=>by
  have e:b=it:=by simpa using f
  subst e;obtain⟨o,e,c,d⟩:=st;exact⟨o,e,λv z=>by rw[d] at z;contradiction⟩
 keep:=λi h h' st k=>by obtain⟨o,e,c,d⟩:=st;exact⟨o,k it (by simp) o e,c,d⟩
 item:=by intro X m hw n B i g s σ H E I j st p;obtain⟨q,r,D,u,y,A⟩:=j it (by simp);have hx:=qo p;refine wpAny_pyNext_ascii_item st hx λh' l F=>?_;have G:Inv X g σ H {s with heap:=h',toks:=s.toks+1}:=I.turned (λb o f e=>(F.2 b f).trans e) q r u y A;obtain⟨o,e,c,d⟩:=id l;exact⟨_,ρ,qx e c d ρ ⟨.str ⟨#[x.cps[i]]⟩,H,G,⟨_,ρ⟩,⟨ρ,_,hx,ρ⟩,l,λb f=>(j b f).1⟩⟩
 done:=by intro X m hw n B i g s σ H E I j st p;obtain⟨q,r,D,u,y,A⟩:=j it (by simp);exact wpAny_pyNext_ascii_end (I.ok.hd B) st (aaS p) λh' J=>⟨ρ,I.turned (λb o f e=>J b o f e) q r u y A⟩
 self:=λ_ _ _ _ _ st h=>wpAny_pyIter_striter_ascii st h
def PL(te:TE):TI:=fun σ H R=>te σ H λv c=>∃x,v=.str x/\x.cps.all (·<128)=bi/\R (Bm x) c
def Kt (i:PE X e te):PI X g e (PL te):=by refine λd s σ H R I h=>aD (i d s σ H _ I h) λv c g=>?_;obtain⟨y,j,f,k,l⟩:=g;obtain⟨x,rfl,m,q⟩:=l;obtain⟨t,rfl⟩:=k;refine wpAny_pyIter_ascii m ⟨c.heap.objs.size,[c.heap.objs.size],_,_,j,ρ,f.kept λb o e=>e7 _ e,Jr x t _,⟨_,ib _ ρ,ρ,ρ⟩,λb n=>?_,q⟩;rw[show b=c.heap.objs.size by simpa using n];exact f.mm (fj _)<|f.ak.fresh<|fj _
theorem DY:∀{ys:List e6}{us:List cA},aC (ys.map V.str) us->YM us ys
 | [],_,h=>by cases h;exact .nil
 | y::ys,_,h=>by
  cases h with
  | cons r t=>obtain⟨tk,rfl⟩:=r;exact .cons _ _<|DY t
theorem yA:∀{bs:List Bool}{us:List cA},aC (bs.map V.bl) us->us=bs.map Sq
 | [],_,h=>by cases h;rfl
 | b::bs,_,h=>by
  cases h with
  | cons r t =>
   cases (r);rw[yA t];rfl
theorem N2(bs:List Bool):((hB bs.length).all λi=>(bs[i]?).getD true)=bs.all id:=by
 induction bs with
 | nil=>rfl
 | cons b r c=>simp only[gi,X8,YT,acC,YT,<-c];rfl
def Ow(j:X.calm=bi):bP X (.builtin "all") (λxs H Q=>∃(p:dn) (bs:List Bool),xs=[.ref p]/\Rd H p (.L<|bs.map V.bl)/\Q (.bl<|bs.all id) H):=by
 intro pins s σ H xs us Q I r h;obtain⟨p,bs,rfl,k,q⟩:=h;obtain⟨u,rfl,l⟩:=r.one;subst l;obtain⟨z,its,n,m,e⟩:=k.ok I.ak;have d:=yA m;subst d;have f:s.heap.IsList p (bs.map Sq).toArray:=⟨_,e,ρ,n,ρ⟩;have o:p<s.heap.objs.size:=gg e;refine call_all_walk (XQ f ⟨s.heap.objs.size,[s.heap.objs.size,p],[s.heap.objs.size],(bs.map Sq).toArray.size,_,_,λi=>(bs[i]?).getD true,ρ,
  Walks.list (A:=X.A.in1) (I.ok.hd j) _ p (hQ o) (bs.map Sq).toArray,⟨⟨_,ib _ ρ,ρ,ρ⟩,f.push _⟩,λi v s' Q' E' c g=>?_,λh' tk t=>?_⟩)
 ·have c:(bs.map Sq)[i]?=al v:=by simpa using c
  rw[c6] at c;obtain⟨b,d,c⟩:=oM c;obtain rfl:=sO c;simp only[d,ZQ] at g;exact Xe g
 have w:(hB (bs.map Sq).toArray.size).all (λi=>(bs[i]?).getD true)=bs.all id:=by rw[gs,bt];exact N2 bs
 rw[w];refine⟨.bl _,H,?_,ρ,q⟩;exact I.kept (t':=tk) λb x ex=>t b x (λy=>by rw[n6.1 y] at ex;exact z9 _<|gg ex)<|e7 _ ex
noncomputable def alt (f g:c->Option d):c->Option d:=λa=>match f a with
 | some b=>al b
 | none=>g a
theorem Ap{c d:Type}{f g:c->Option d}{a:c}{b:d}(h:alt f g a=al b):f a=al b\/g a=al b:=by unfold alt at h;split at h;simp_all;exact τ h
theorem DE.alt{e:hH}{f g:EF}(h:DE X e f)(h':DE X e g):DE X e (alt f g):=by obtain⟨t,p,q⟩:=h;obtain⟨t',j,l⟩:=h';exact⟨_,PE.or p j,fun c i Z σ H Hi d Z' Q e S k=>(Ap e).elim (fun e=>ι<|q c i Z σ H Hi d Z' Q e S k) fun e=>τ<|l c i Z σ H Hi d Z' Q e S k⟩
theorem cg.alt{st:Xs}{f g:SF}(h:cg X st f)(h':cg X st g):cg X st (alt f g):=by obtain⟨t,p,q⟩:=h;obtain⟨t',i,j⟩:=h';exact⟨_,PS.or p i,fun c d Z σ H Hi o D e S k=>(Ap e).elim (fun e=>ι<|q c d Z σ H Hi o D e S k) fun e=>τ<|j c d Z σ H Hi o D e S k⟩
theorem cO.alt{c iter:hH}{f g:IF}(h:cO X c iter f)(h':cO X c iter g):cO X c iter (alt f g):=by obtain⟨t,p,q⟩:=h;obtain⟨t',j,l⟩:=h';exact⟨_,PI.or p j,fun d i Z σ H Hi items Z' R e S k=>(Ap e).elim (fun e=>ι<|q d i Z σ H Hi items Z' R e S k) fun e=>τ<|l d i Z σ H Hi items Z' R e S k⟩
noncomputable def xl:Dat->Dat->Option Res
 | .L xs,.int n=>if 0<=n/\n<=2/\xs.length<=1000 then al (.O<|.L (C' n.toNat xs).flatten) else am
 | _,_=>am
theorem Bz:∀{a:List Dat}{b:List V}{c:List Dat}{d:List V},aw K H a b->aw K H c d->aw K H (a++c) (b++d)
 | [],_,_,_,h,h'=>by cases (h);exact h'
 | _::_,_,_,_,f,h'=>by obtain⟨v,r,e,p,q⟩:=f;subst e;exact⟨v,_,ρ,p,Bz q h'⟩
def TL:fF X Ck xl:=by
 intro H0 ps Z σ H Hi x y d d' o Q e S rx f k;delta xl at e;split at e
 ·split at e
  ·rename_i g;obtain rfl:=sO e;obtain⟨p,vs,rfl,h,rs⟩:=rx;subst f;refine⟨p,vs,_,ρ,ρ,Rd.mono S.sub h,by rw[rs.length];exact g,λq c=>?_⟩;exact k (.ref q) _ Hi (S.made c) (ag.refl _) ⟨q,ρ,⟨_,aT,xT (R:=aw _ _) ρ Bz rs _,S.cX c⟩,(S.bB c).2,(S.bB c).1,S.dO c⟩
  exact nO e
 exact nO e
def KP (c:DD X a f)(d:DD X b g):DE X (.BinOp a .Mult b pos) (bW xl f g):=nU (by
  intro pins s σ H x y v u Q I rx d h;obtain⟨l,xs,n,rfl,rfl,f,g,q⟩:=h;subst rx;obtain⟨tk,rfl⟩:=d;obtain⟨z,its,k,r,e⟩:=f.ok I.ak;have hl:=r.length;have hsz:its.toArray.size*n.toNat<=sizeLine:=by exact ia (Nat.mul_le_mul (hl ▸ g.2.2) (show n.toNat<=2 by lia)) ⋯
  refine wpAny_binaryOp_repeat_ref ⋯ ⟨_,e,ρ⟩ (λs'=>acf s' n tk) noFill_list_mul
   F.fills_int_mul acx repeat_list F.slot_int_index.lookup ?_
  refine YV acx (acf s n tk) F.entry_int_rmul (F.args_int_rmul_2 _ _) (int___rmul___int_list n tk l its.toArray k) ⟨e,ρ,⟨_,e,ρ⟩,?_⟩;refine YV F.slot_list_mul ⟨_,e,ρ⟩ F.entry_list_mul (F.args_list_mul_2 _ _)
   (AutoListH.list___mul___list_int_3 l its.toArray k n tk (by simp[ZA];lia) (by rw[zd] at hsz;lia) (by simp only[XI];simpa using hsz)) ⟨e,?_⟩
  have i:(List.foldl (λj m=>j++m) #[] (C' (if its.toArray.isEmpty=bi then 0 else n.toNat) its.toArray))=(C' n.toNat its).flatten.toArray:=by
   rw[Cd];split
   ·rename_i h;have:its=[]:=by simpa using h
    subst this;simp
   simp
  rw[i];have c:=xT .nil Ri r n.toNat;refine⟨.ref _,_,I.wD c ?_,ρ,q _ I.fresh⟩;rwa[c.length,List.length_flatten,List.map_replicate,List.sum_replicate_nat,Nat.mul_comm]) TL c d
noncomputable def jY(f:DF):IF:=λZ=>(f Z).bind λp=>match p.1 with
 | .str x=>if x.cps.all (·<128)=bi then al (x.cps.toList.map λc=>.str ⟨#[c]⟩,p.2) else am
 | _=>am
def Tz (h:DD X e f):cO X n e (jY f):=by
 obtain⟨t,p,q⟩:=h;refine⟨_,Kt p,λo r Z σ H Hi items Z' R g S k=>?_⟩;obtain⟨c,Z1,s,g⟩:=oB g;dsimp only at g;split at g
 ·rename_i x;split at g
  ·rename_i u;obtain⟨rfl,rfl⟩:=sP g;refine q o r Z σ H Hi _ _ _ s S λv w l z A B=>?_;subst B;refine⟨x,ρ,u,k _ w l z A λi H' sm=>⟨λd hd=>?_,λhl=>?_⟩⟩
   ·rw[c6,px] at hd;obtain⟨c,m,hd⟩:=oM hd;obtain rfl:=sO hd;refine⟨(Array.getElem?_eq_some_iff.1 m).1,λv H2 y=>ι ?_⟩;obtain⟨C,c',j,D⟩:=y;rw[m] at j;obtain rfl:=sO j;exact⟨C,D⟩
   show x.cps.size<=i;simpa using hl
  exact nO g
 exact nO g
noncomputable def dH:List Dat->Option (List e6)
 | []=>al []
 | .str x::r=>(dH r).map (x::·)
 | _::_=>am
theorem lH:∀{ds:List Dat}{vs:List V}{ys:List e6},dH ds=al ys->aw K H ds vs->vs=ys.map V.str
 | [],_,_,e,r=>by obtain rfl:=sO e;exact r
 | d::ds,_,_,e,c=>by
  obtain⟨v,vr,f,g,rs⟩:=c;cases d with
  | str x=>obtain⟨ys',h,e⟩:=oM e;obtain rfl:=sO e;simp only[f,lH h rs];subst g;rfl
  | _=>exact nO e
def qZ(sep:e6)(f:DF):DF:=λZ=>(f Z).bind λp=>match p.1 with
 | .L ds=>(dH ds).bind λys=>if sep.length<=16/\(ys.map (·.length)).sum+ys.length<=1048576 then al (.str<|YZ sep ys,p.2) else am
 | _=>am
def OS (h:DD X e f)(r:∀{t:TA},PA X [e] t->PE X (.Call (.Attribute (.Constant (.str sep) j p0) "join" i) [e] [] pos) (mn X.K "str" (λx vs H Q=>∃(sep:e6) (p:dn) (ys:List e6),x=.str sep/\vs=[.ref p]/\Rd H p (.L<|ys.map V.str)/\sep.length<=16/\(ys.map (·.length)).sum+ys.length<=1048576/\Q (.str<|YZ sep ys) H) (tC<|.str sep) t))(s:bN X e []:=by rfl):DD X (.Call (.Attribute (.Constant (.str sep) j p0) "join" i) [e] [] pos) (qZ sep f):=by
 obtain⟨t,p,q⟩:=h;refine⟨_,r<|gw p il s,λu w Z σ H Hi d Z' Q g S k=>?_⟩;obtain⟨c,Z1,y,g⟩:=oB g;dsimp only at g;split at g
 ·obtain⟨ys,z,g⟩:=oA g;split at g
  ·rename_i l;obtain⟨rfl,rfl⟩:=sP g;refine⟨ρ,q u w Z σ H Hi _ _ _ y S λv A m n B C=>?_⟩;obtain⟨a,vs,rfl,o,rs⟩:=C;rw[lH z rs] at o;exact⟨sep,a,ys,ρ,ρ,Rd.mono n.sub o,l.1,l.2,k _ A m n B ρ⟩
  exact nO g
 exact nO g
noncomputable def j4:List Dat->Option (List Bool)
 | []=>al []
 | .bl x::r=>(j4 r).map (x::·)
 | _::_=>am
theorem xS:∀{ds:List Dat}{vs:List V}{ys:List Bool},j4 ds=al ys->aw K H ds vs->vs=ys.map V.bl
 | [],_,_,e,r=>by obtain rfl:=sO e;exact r
 | d::ds,_,_,e,c=>by
  obtain⟨v,vr,f,g,rs⟩:=c;cases d with
  | bl x=>obtain⟨ys',h,e⟩:=oM e;obtain rfl:=sO e;simp only[f,xS h rs];subst g;rfl
  | _=>exact nO e
def pV:List Dat->Option Res
 | [.L ds]=>(j4 ds).map λbs=>.D (.bl<|bs.all id)
 | _=>am
def xO(i:Nat)(d f:DF):SF:=λZ=>(f Z).bind λp=>((p.2[i]?).bind ownOf).bind λ_=>(d p.2).bind λq=>((q.2[i]?).bind ownOf).bind λs=>match s.2,q.1 with
 | .bV c,.str k=>if c.length<dk then al (.next<|q.2.set i<|kindAt s.1<|.bV<|Ay c k p.1) else am
 | _,_=>am
theorem OX (i:Nat)(L:X.A.units+1<zR)(M:X.N[i]?=al x)(O:cj X.env.scope x)(h:DD X e f)(P:DD X l s)(hd:bD x:=by decide)(u:cH x:=by decide)(Q:Fs e (al<|.Subscript (.Name x r) l pt) pos.line X.env=pure false:=by rfl):cg X (.Assign [.Subscript (.Name x r) l pt] e pos) (xO i s f):=by
 obtain⟨t,p,q⟩:=h;obtain⟨tk,R,T⟩:=P;refine⟨_,D' L (fh M O hd u) R p Q,λw z Z σ H Hi o D e S k=>?_⟩;obtain⟨d,Z1,U,e⟩:=oB e;obtain⟨b0,c0,V,e⟩:=oB e;obtain⟨n,Z2,W,e⟩:=oB e;dsimp only at e;cases g:(Z2[i]?).bind ownOf with
 | none=>rw[g] at e;exact nO e
 | some j =>
  obtain⟨io,c⟩:=j;simp only[g] at e;dsimp only[ma] at e;split at e
  ·rename_i ks B;split at e
   ·rename_i Y;obtain rfl:=sO e;refine q w z Z σ H Hi d Z1 _ U S λv H1 C E s1 r1=>?_;obtain⟨a,m,_⟩:=E.at<|kJ V;refine⟨.ref a,m,T w z Z1 σ H1 C _ Z2 _ W E λy H2 F G j r2=>?_⟩;subst r2;obtain⟨b,I,ob⟩:=G.at<|kJ g;rw[m] at I;cases I;obtain⟨kvs,h1,J,h3⟩:=ob;refine⟨a,_,ρ,ml.k (k:=uy B) h1 (by rw[bC.length J];exact Y),?_⟩;exact k σ _ F (G.write (kJ g) m ⟨_,aT,bC.put B J<|Rep.mono j r1,h3⟩)<|s1.trans j
   exact nO e
  exact nO e
structure nI (X:Cx) (pre:List Xs) (f:SF):Prop where
 ex:∀(rest:List Xs) (u:TS),dF X rest u->∃t,dF X (pre++rest) t/\∀(H0:Hp×Hp) (ps:Nat->Option dn) (Z:DS) (σ:St) (H Hi:Hp) (o:Out) (D:Ends),f Z=al o->SR X.K H0 ps Z σ H Hi->nQ X H0 ps Hi {D with nx:=fun σ' H'=>u D σ' H'} o->t D σ H
theorem Dk:nI X [] kM:=⟨fun rest u h=>⟨u,h,fun H0 ps Z σ H Hi o D e S k=>by obtain rfl:=sO e;exact k σ H Hi S<|ag.refl _⟩⟩
theorem HH{st:Xs}{c:List Xs}{f g:SF}(m:cg X st f)(n:nI X c g):nI X (st::c) (iq f g):=by
 refine⟨fun d u h=>?_⟩;obtain⟨t1,p,q⟩:=m;obtain⟨t2,s,t⟩:=n.ex d u h;refine⟨_,jq p s,fun i j Z σ H Hi o D e S k=>?_⟩;unfold iq at e;obtain⟨o1,v,e⟩:=oA e;refine q i j Z σ H Hi o1 _ v S ?_;cases o1 with
 | next Z1=>exact fun σ' H' l w s'=>t i j Z1 σ' H' l o D e w (nQ.mono s' k)
 | ret r Z1=>obtain rfl:=sO e;exact k
 | brk Z1=>obtain rfl:=sO e;exact k
 | cont Z1=>obtain rfl:=sO e;exact k
 | exc C Z1=>obtain rfl:=sO e;exact k
structure aY (P:kH) (w:pe) (K:ft) (mg:e6->Option cA) (base:ph) (x:e6) (k:Nat) (sp:Sp):Prop where
 is:∃(f:dn) (fd:kq) (pn:List e6),br P w K mg base bj k f fd pn sp/\mg x=al (.ref f)/\aad K (.ref f)=bi/\Binds K fd pn []
structure fQ (K:ft) (mg:e6->Option cA) (x:e6) (d:Dat):Prop where
 is:∃v u,mg x=al u/\RelV v u/\∀H,Rep K H d v
def aY.has (h:aY X.prog X.w X.K X.mg X.base x k sp)(c:Gl X x)(d:bY k X.A):xy X x sp:=by obtain⟨f,g,pn,F,m,kp,b⟩:=h.is;exact⟨c,bj,k,f,g,pn,F,d,m,kp,b,(λ_ _ _ _ _ _ _ h=>h.elim)⟩
def T8 (h:fQ X.K X.mg x d)(c:Gl X x)(hd:bD x):DD X (.Name x pos) (fC d):=Js ⟨c,h.is⟩ hd
def MH (h:aY X.prog X.w X.K X.mg X.base x k (aI X.K fn))(f:Gl X x)(g:bY k X.A)(c:bD x)(i:bN X e es)(d:(XG pos<|nk es X.env).any (·.1)=bn)(j:DA X (e::es) fa):DE X (.Call (.Name x p) (e::es) [] pos) (cb fn fa):=Su (h.has f g) j c i d
def Lr (h:aY X.prog X.w X.K X.mg X.base x k (dy X.K j fn))(f:Gl X x)(g:bY k X.A)(c:bD x)(l:bN X e es)(d:(XG pos<|nk es X.env).any (·.1)=bn)(m:wz X (e::es) j i fa):DE X (.Call (.Name x p) (e::es) [] pos) (sT fn i fa):=Pz (h.has f g) m c l d
def Np (f:X.N.findIdx? (·==x)=al i)(g:cj X.env.scope x)(h:Gl X "len")(j:X.mg "len"=am)(hd:bD x)(c:cH x):DD X (.Call (.Name "len" p) [.Name x d] [] pos) (qU i):=HN i (dZ f) g h j hd c
def Q9 (c:Gl X "int")(d:X.mg "int"=am)(f:bN X e [])(g:DA X [e] fa):DE X (.Call (.Name "int" p) [e] [] pos) (cb rM fa):=tz Rf IZ c d (by decide +kernel) g ⋯ ρ f ρ
def O7 (c:X.calm=bi)(d:Gl X "all")(f:X.mg "all"=am)(g:bN X e [])(h:DA X [e] fa):DE X (.Call (.Name "all" p) [e] [] pos) (cb pV fa):=jT (Ow c) (by
  intro H0 ps Z σ H Hi vs ds o Q e S r k;unfold pV at e;split at e
  ·rename_i ds';obtain⟨bs,d,e⟩:=oM e;obtain rfl:=sO e;obtain⟨v,vr,rfl,⟨a,ws,rfl,c,rs⟩,f⟩:=r;subst f;rw[xS d rs] at c;exact⟨a,bs,ρ,Rd.mono S.sub c,k _ H Hi S (ag.refl _) ρ⟩
  exact nO e) d f (by decide +kernel) h ⋯ ⋯ g ρ
def PV (d:X.calm=bi)(f:Gl X "min")(g:X.mg "min"=am)(h:bN X a [b])(c:(XG pos<|nk [b] X.env).any (·.1)=bn)(i:DA X [a,b] fa):DE X (.Call (.Name "min" p) [a,b] [] pos) (cb xE fa):=jT (Io d) NG f g (by decide +kernel) i ⋯ ρ h c
def Jx (d:X.calm=bi)(f:Gl X "max")(g:X.mg "max"=am)(h:bN X a [b])(c:(XG pos<|nk [b] X.env).any (·.1)=bn)(i:DA X [a,b] fa):DE X (.Call (.Name "max" p) [a,b] [] pos) (cb yu fa):=jT (Ib d) JJ f g (by decide +kernel) i ⋯ ρ h c
theorem OT (c:X.A.units+1<zR)(d:oU b)(h:DD X a f)(i:DD X b g):DD X (.Subscript a b pos) (rL f g):=(λO P R D=>by
  obtain⟨ta,E,F⟩:=P;obtain⟨tb,G,I⟩:=R;refine⟨_,PE.or (Fg BG E G D)<|zV O E G D,λm o Z σ H Hi d Z' Q e S k=>?_⟩;unfold rL at e;obtain⟨c,Z1,J,e⟩:=oB e;obtain⟨n,Z2,L,e⟩:=oB e;dsimp only at e;cases q:cp c n with
  | none=>rw[q] at e;exact nO e
  | some d' =>
   rw[q] at e;cases e;by_cases hd:∃M r,c=.bV M/\n=.str r
   ·obtain⟨M,r,rfl,rfl⟩:=hd;refine τ (F m o Z σ H Hi _ Z1 _ J S λx s h t u w=>?_);refine I m o Z1 σ s h _ _ _ L t λy z i j l B=>?_;obtain⟨p,kvs,rfl,T,U⟩:=Rep.mono l w;subst B;obtain⟨v,V,C⟩:=(U.find r).1 d q;refine⟨p,v,ρ,?_,k v z i j (u.trans l) C⟩;rw[<-V];exact jx.k (k:=uy r)<|j.sub _ _ T
   have N:r6 c n=al d:=by unfold cp at q;simp_all
   refine ι (F m o Z σ H Hi _ Z1 _ J S λx s h t u w=>?_);refine I m o Z1 σ s h _ _ _ L t λy z i j l B=>?_
   exact Fy ((Rep.mono l w).top j.sub) B N λv C=>k v z i j (u.trans l) C) c h i d
def RF (f:X.N.findIdx? (·==x)=al i)(h:cj X.env.scope x)(j:X.A.units+1<zR)(hd:bD x)(c:cH x)(k:oU b)(l:DD X b g):DD X (.Subscript (.Name x d) b pos) (jr i g):=QT i j (dZ f) h l k hd c
def IA (c:X.A.units+64<zR)(d:DD X a f)(h:DD X b g):DE X (.Compare a [.Eq] [b] pos) (bW (dR false) f g):=pY (Ef c) wJ d h<|j2 _
def T1 (c:X.A.units+64<zR)(d:DD X a f)(h:DD X b g):DE X (.Compare a [.NotEq] [b] pos) (bW (dR true) f g):=pY (BS c) wJ d h<|j2 _
def ID (c:DD X a f)(d:DD X b g):DE X (.Compare a [.Gt] [b] pos) (bW (fR (λ_ _=>true) λi j=>.bl<|bd<|j<i) f g):=pY Gh (uw λ_ _ _ _=>rfl) c d<|j2 _
def Nm (c:X.A.units+65<zR)(d:za .In b=bn)(h:DD X a f)(i:DD X b g):DE X (.Compare a [.In] [b] pos) (bW (dU false) f g):=pY (FK c) vK h i d
theorem PK{a b:hH}{f g:DF}(c:X.A.units+65<zR)(d:za .NotIn b=bn)(h:DD X a f)(i:DD X b g):DE X (.Compare a [.NotIn] [b] pos) (bW (dU true) f g):=pY (Bj c) vK h i d
def IW (c:X.A.units+65<zR)(d:za .In b=bn)(h:DD X a f)(i:DD X b g):DT X (.Compare a [.In] [b] pos) (dP<|bW (dU false) f g):=l9 (FK c) vK h i d
theorem Ie{a b:hH}{f g:DF}(c:X.A.units+65<zR)(d:za .NotIn b=bn)(h:DD X a f)(i:DD X b g):DT X (.Compare a [.NotIn] [b] pos) (dP<|bW (dU true) f g):=l9 (Bj c) vK h i d
def Rh (h:DD X a f):DD X (.UnaryOp .USub a pos) (λZ=>(f Z).bind λp=>match p.1 with|.int i=>al (.int<|-i,p.2)|_=>am):=by
 obtain⟨t,p,q⟩:=h;refine⟨_,So (Ry λ_ _ _ _ _ q=>neg_int q) p,λl m Z σ H Hi d Z' Q g S k=>?_⟩;obtain⟨c,Z1,n,g⟩:=oB g;dsimp only at g;split at g
 ·obtain⟨rfl,rfl⟩:=sP g;refine q l m Z σ H Hi _ _ _ n S λv o j r s u=>?_;subst u;exact⟨_,ρ,k _ o j r s ρ⟩
 exact nO g
noncomputable def gR(scope:Xp):List Str:=(scope.names.filter λp=>p.2 != .globalImplicit).map (·.1)
def nV(N:List e6)(scope:Xp):List (Option Nat):=(gR scope).map λx=>if scope.names.lookup x==some .free then N.findIdx? (·==x) else am
def FE (hnd:N.Nodup)(hXN:X.N=N)(j:X.calm=bi)(B:iX X.env.scope scope)(i:gA X.N (gR scope) scope (nV N scope)=bi)(k:∀x,ti iter X.env x=pure x)(l:cO X h iter fi)(m:∀(d:List (e6×dn)) (C:dn) (c:ey) (H:Hp) (f:List dn),DG (bT X (gR scope) scope d C c H f) h g)(n:∀(d:List (e6×dn)) (C:dn) (c:ey) (H:Hp) (f:List dn),kK (bT X (gR scope) scope d C c H f) ifs fc)(o:∀(d:List (e6×dn)) (C:dn) (c:ey) (H:Hp) (f:List dn),DD (bT X (gR scope) scope d C c H f) elt fe):DE X (.ListComp elt [⟨h,iter,ifs,0⟩] scope pos) (dJ (nV N scope) am fi g fc fe):=Pt j B i l m n o k
def Tb (l:N.Nodup)(m:X.N=N)(n:X.N.findIdx? (·==y)=al i)(p:Loc X.env.scope y)(q:X.fn y=bi\/X.env.scope.names.lookup y=some .local)(o:Fs (.ListComp elt [⟨j,iter,ifs,0⟩] scope pos) (al<|.Name y py) d.line X.env=pure true)(r:X.calm=bi)(B:iX X.env.scope scope)(k:gA X.N (gR scope) scope (nV N scope)=bi)(s:∀x,ti iter X.env x=pure x)(t:cO X j iter fi)(u:∀(f:List (e6×dn)) (C:dn) (c:ey) (H:Hp) (h:List dn),DG (bT X (gR scope) scope f C c H h) j g)(v:∀(f:List (e6×dn)) (C:dn) (c:ey) (H:Hp) (h:List dn),kK (bT X (gR scope) scope f C c H h) ifs fc)(w:∀(f:List (e6×dn)) (C:dn) (c:ey) (H:Hp) (h:List dn),DD (bT X (gR scope) scope f C c H h) elt fe):cg X (.Assign [.Name y py] (.ListComp elt [⟨j,iter,ifs,0⟩] scope pos) d) (gQ i<|dJ (nV N scope) am fi g fc fe) :=
 Q5 i (m ▸ l) (dZ n) p q r B k t u v w o s
def Qm (c:X.N.Nodup)(d:X.N.findIdx? (·==x)=al i)(hx:Loc X.env.scope x)(f:X.fn x=bi\/X.env.scope.names.lookup x=some .local):DG X (.Name x py) (vQ i):=(λi f g hx h=>by
  refine⟨_,mI f g hx h,λH0 ps Z σ H Hi d Z' v Q e S r k=>?_⟩
  exact k _<|S.put (r:=.D d) r e) i c (dZ d) hx f
def GL (m:X.N.findIdx? (·==x)=al i)(n:cj X.env.scope x)(hd:bD x)(k:cH x)(g:X6 (.Name x d) "append" X.env (eval (.Name x d) X.env)=eval (.Name x d) X.env)(j:sA X pos e)(h:(c.endLine==pos.line)=bi)(o:bN X e [])(l:Fs (.Call (.Attribute (.Name x d) "append" c) [e] [] pos) am f.line X.env=pure false)(p:DA X [e] fa) :
  cg X (.Expr (.Call (.Attribute (.Name x d) "append" c) [e] [] pos) f) (ng<|iS i o9 fa):=ye (OW i (dZ m) n p hd k g j h o) l
def MY (d:X6 (.Constant (.str sep) j p0) "join" X.env (eval (.Constant (.str sep) j p0) X.env)=eval (.Constant (.str sep) j p0) X.env)(i:sA X pos e)(g:(c.endLine==pos.line)=bi)(k:bN X e [])(h:DD X e f):DD X (.Call (.Attribute (.Constant (.str sep) j p0) "join" c) [e] [] pos) (qZ sep f) :=
 OS h (λl=>lQ PySem.F.plainAttrs_str PySem.F.slot_str_join PySem.F.type_str_join (by intro pins s σ H x vs v us Q I rx c h;obtain⟨sep,p,ys,rfl,rfl,d,f,g,q⟩:=h;obtain⟨t,rfl⟩:=rx;obtain⟨u,rfl,i⟩:=c.one;subst i;obtain⟨z,its,n,r,e⟩:=d.ok I.ak;exact join_listW ⟨_,e,ρ,n,ρ⟩ (DY r) f g λt' k=>⟨.str _,H,I.tok k,⟨t',ρ⟩,q⟩) yg l d i g k ρ) k
def La (f:X.calm=bi)(g:(t9 es X.env).length=es.length)(d:(t9 es X.env).findIdx? (·.1)=am)(h:nC X es c):DG X (.Tuple es k pos) (Bg es.length c):=JA f h g d
def lS (h:bY k A):A.units+1<cLine:=by have:=h.un;lia
def wQ (h:bY k A):A.units+64<cLine:=by have:=h.un;lia
def rA (h:bY k A):A.units+65<cLine:=by have:=h.un;lia
noncomputable def Hq(sc scope:Xp):Bool:=scope.kind==.function&&scope.names.all (λy=>y.2 != .cell&&(y.2 != .local||scope.names.lookup y.1==some .local)&&(y.2 != .free||sc.names.lookup y.1==some .cell||sc.names.lookup y.1==some .free))
def m9 (h:Hq d scope=bi):iX d scope:=by
 delta Hq at h;simp only[gj] at h;have g:∀y∈scope.names,y.2≠.cell/\(y.2=.local->scope.names.lookup y.1=some .local)/\(y.2=.free->d.names.lookup y.1=some .cell\/d.names.lookup y.1=some .free):=λy c=>by
  have q:=mA.1 h.2 y c;simp at q;refine⟨q.1.1,λz=>?_,λz=>?_⟩
  ·rcases q.1.2 with w|w;simp_all;exact w
  rcases q.2 with (w|w)|w;simp_all
  ·exact ι w
  exact τ w
 exact⟨by simpa using h.1,λy c=>(g y c).1,λy c=>(g y c).2.1,λy c=>(g y c).2.2⟩
def RY (f:X.N.findIdx? (·==x)=al i)(j:cj X.env.scope x)(k:nk (.Name x c::es) X.env=(false,eval (.Name x c) X.env)::nk es X.env)(hd:bD x)(d:cH x)(h:DA X es g):wz X (.Name x c::es) 0 i g:=Il i (dZ f) j h k hd d
def Q3 (c:bN X e es)(d:DD X e f)(h:DA X es g):DA X (e::es) (fO f g):=Me d h c
def NS (d:(t9 (e::es) X.env).map (·.2)=Ya e X.env::(t9 es X.env).map (·.2))(f:DG X e g)(h:nC X es c):nC X (e::es) (Ey g c):=O4 f h d
theorem SN{c e:hH}{f:DF}{g:GF}(d:Y8 [c] e pos.line X.env=pure false)(hw:Y9 [c] e X.env=pure am)(i:(t9 [c] X.env).map (·.2)=[Ya c X.env])(h:DD X e f)(j:DG X c g):cg X (.Assign [c] e pos) (oO g f):=Td h j d hw i
def Mv (k:X.N.findIdx? (·==x)=al i)(l:cj X.env.scope x)(m:X.A.units+1<zR)(hd:bD x)(j:cH x)(n:Fs e (al<|.Subscript (.Name x d) c pt) pos.line X.env=pure false)(h:DD X e f)(o:DD X c g):cg X (.Assign [.Subscript (.Name x d) c pt] e pos) (xO i g f):=OX i m (dZ k) l h o hd j n
def Nk (d:ZN (k5 X.prog X.w) X.A X.env X.xe)(f:X.calm=bi)(h:∀x,ti iter X.env x=pure x)(i:cO X c iter fi)(j:DG X c g)(k:gh X body fb):cg X (.For c iter body [] pos) (oG fi g fb):=Te d f i j k h
def Cm (d:Gl X "range")(g:X.mg "range"=am)(i:nk [a] X.env=[(false,eval a X.env)])(h:DA X [a] f):cO X c (.Call (.Name "range" p) [a] [] pos) (o6 f):=Iv d g h i
def Mj{e:hH}{f:DF}{l h:OF}{lo c:Option hH}{d:H9}(g:DD X e f)(hl:DO X lo l)(hh:DO X c h):DE X (.Subscript e (.Slice lo c am d) pos) (kW f l h):=L5 g hl hh
def Ic (d:∀c,abB a X.env c=(do let v <-c;aaT a.pos;XY [v] (truthy v)))(h:DD X a f):DT X a (lK f):=QD h d
noncomputable def iG:Dat->Dat->Option Res
 | .int i,.int j=>al (.D<|.bl<|bd<|i<=j)
 | .str i,.str j=>al (.D<|.bl<|!bd (j.cps.toList<i.cps.toList))
 | _,_=>am
def GS:R2:=λx y H Q=>iK (λi j=>.bl<|bd<|i<=j) x y H Q\/(λx y H Q=>∃i j,x=.str i/\y=.str j/\Q (.bl<|!bd (j.cps.toList<i.cps.toList)) H) x y H Q
def wj:aQ X (mu .LtE) GS:=aQ.or (vN λ_ _ _ _ _ _ _ q=>le_int q) (by intro pins s σ H x y v u Q I rx c h;obtain⟨i,j,rfl,rfl,q⟩:=h;obtain⟨t,rfl⟩:=rx;obtain⟨t',rfl⟩:=c;exact PySem.P.le_str ⟨.bl _,H,I,ρ,q⟩)
def vb:fF X GS iG:=by
 intro H0 ps Z σ H Hi x y d d' o Q e S rx c k;delta iG at e;split at e
 ·cases e;subst rx;subst c;exact ι ⟨_,_,ρ,ρ,k _ H Hi S (ag.refl _) ρ⟩
 ·obtain rfl:=sO e;subst rx;subst c;exact τ ⟨_,_,ρ,ρ,k _ H Hi S (ag.refl _) ρ⟩
 exact nO e
noncomputable def lE(o1 o2:Dat->Dat->Option Res)(f g h:DF):DF:=λZ=>(f Z).bind λx=>(g x.2).bind λy=>match o1 x.1 y.1 with
 | some (.D<|.bl true)=>(h y.2).bind λz=>(match o2 y.1 z.1 with|some (.D<|.bl b)=>al (.bl b,z.2)|_=>am)
 | some (.D<|.bl false)=>al (.bl false,y.2)
 | _=>am
def MK (F:aQ X (mu s) D)(q:fF X D o1)(G:aQ X (mu t) E)(I:fF X E o2)(V:DD X a f)(W:DD X b g)(Y:DD X c h)(hm:ZL [s,t] [b,c]=bn):DD X (.Compare a [s,t] [b,c] pos) (lE o1 o2 f g h):=by
 obtain⟨ta,pa,qa⟩:=V;obtain⟨tb,pb,qb⟩:=W;obtain⟨tc,pc,qc⟩:=Y;refine⟨_,Nu F G pa pb pc hm,λj l Z σ H Hi d Z' Q i S k=>?_⟩;obtain⟨x,Z1,e1,i⟩:=oB i;obtain⟨y,Z2,e2,i⟩:=oB i;refine qa j l Z σ H Hi x Z1 _ e1 S λJ H1 L S1 M rx=>?_;refine qb j l Z1 σ H1 L y Z2 _ e2 S1 λu N r O o w=>?_;split at i
 ·rename_i A;refine q j l Z2 σ N r J u x y _ _ A O (Rep.mono o rx) w λv B m C p n=>?_;subst n;refine⟨true,ρ,?_⟩;obtain⟨z,Z3,e3,i⟩:=oB i;refine qc j l Z2 σ B m z Z3 _ e3 C λzv H4 P S4 R rz=>?_;split at i
  ·rename_i b T;obtain⟨rfl,rfl⟩:=sP i;exact I j l _ σ H4 P u zv y z _ Q T S4 (Rep.mono (p.trans R) w) rz λv H5 U S5 s5 n=>k v H5 U S5 ((((M.trans o).trans p).trans R).trans s5) n
  exact nO i
 ·rename_i A;obtain⟨rfl,rfl⟩:=sP i;refine q j l _ σ N r J u x y _ _ A O (Rep.mono o rx) w λv B m C p n=>?_;subst n;refine⟨false,ρ,?_⟩;rw[if_neg ⋯];exact k _ B m C ((M.trans o).trans p) ρ
 exact nO i
def PJ (d:ZL [.LtE,.LtE] [b,c]=bn)(i:DD X a f)(j:DD X b g)(k:DD X c h):DD X (.Compare a [.LtE,.LtE] [b,c] pos) (lE iG iG f g h):=MK wj vb wj vb i j k d
def Qa (c:Gl X "isinstance")(d:X.mg "isinstance"=am)(g:Gl X "str")(h:X.mg "str"=am)(i:bN X e [.Name "str" q])(j:DD X e f):DD X (.Call (.Name "isinstance" p) [e,.Name "str" q] [] pos) (mQ "str" f):=xJ j c d g h (by decide +kernel) ⋯ ρ i
def QO (c:Gl X "isinstance")(d:X.mg "isinstance"=am)(g:Gl X "tuple")(h:X.mg "tuple"=am)(i:bN X e [.Name "tuple" q])(j:DD X e f):DD X (.Call (.Name "isinstance" p) [e,.Name "tuple" q] [] pos) (mQ "tuple" f):=xJ j c d g h (by decide +kernel) ⋯ ρ i
def R6 (c:Gl X "isinstance")(d:X.mg "isinstance"=am)(g:Gl X "list")(h:X.mg "list"=am)(i:bN X e [.Name "list" q])(j:DD X e f):DD X (.Call (.Name "isinstance" p) [e,.Name "list" q] [] pos) (mQ "list" f):=xJ j c d g h (by decide +kernel) ⋯ ρ i
def sX(o1 o2:Dat->Dat->Option Res)(f g h:DF):BF:=λZ=>(lE o1 o2 f g h Z).bind λp=>match p.1 with
 | .bl b=>al (b,p.2)
 | _=>am
theorem Qr (d:ZL [.LtE,.LtE] [b,c]=bn)(i:DD X a f)(j:DD X b g)(k:DD X c h):DT X (.Compare a [.LtE,.LtE] [b,c] pos) (sX iG iG f g h):=(λG r I J W Y hc hm=>by
  obtain⟨ta,pa,qa⟩:=W;obtain⟨tb,pb,qb⟩:=Y;obtain⟨tc,pc,qc⟩:=hc;refine⟨_,Jz G I pa pb pc hm,λj l Z σ H Hi d Z' Q m S k=>?_⟩;obtain⟨dd,Z0,i,m⟩:=oB m;dsimp only at m;cases dd with
  | bl b0 =>
   obtain⟨rfl,rfl⟩:=sP m;obtain⟨x,Z1,e1,i⟩:=oB i;obtain⟨y,Z2,e2,i⟩:=oB i;dsimp only at i;refine qa j l Z σ H Hi x Z1 _ e1 S λL H1 M S1 N rx=>?_;refine qb j l Z1 σ H1 M y Z2 _ e2 S1 λB O s P p C=>?_;split at i
   ·rename_i D;refine r j l Z2 σ O s L B x y _ _ D P (Rep.mono p rx) C λv E n F q o=>?_;subst o;refine⟨true,ρ,?_⟩;obtain⟨z,Z3,e3,i⟩:=oB i;dsimp only at i;refine qc j l Z2 σ E n z Z3 _ e3 F λzv H4 R S4 T rz=>?_;split at i
    ·rename_i b U;cases i;exact J j l _ σ H4 R B zv y z _ _ U S4 (Rep.mono (q.trans T) C) rz λv H5 V S5 s5 o=>⟨_,o,k H5 V S5<|(((N.trans p).trans q).trans T).trans s5⟩
    exact nO i
   ·rename_i D;cases i;refine r j l _ σ O s L B x y _ _ D P (Rep.mono p rx) C λv E n F q o=>?_;subst o;refine⟨false,ρ,?_⟩;rw[if_neg ⋯];exact⟨_,ρ,k E n F<|(N.trans p).trans q⟩
   exact nO i
  | _=>exact nO m) wj vb wj vb i j k d
end
noncomputable def EJ:List e6->Bool
 | []=>true
 | x::r=>!(r.any (·==x))&&EJ r
theorem rC:∀{l:List e6},EJ l=bi->l.Nodup
 | [],_=>Dl
 | x::r,h=>by have h:=kx.1 h;refine lq.2 ⟨λm=>?_,rC h.2⟩;have:r.any (·==x)=bi:=n4.2 ⟨x,m,by simp⟩;simp_all
section
open PySem.W
inductive Comes {α:Type}(lt:Nat->Nat->Bool) (ok:Nat->Nat->Prop):KasT α->α->Prop
 | ret (a:α):Comes lt ok (.ret a) a
 | ask {i j:Nat}{k:Bool->KasT α}{a:α}(h:ok i j) (r:Comes lt ok (k<|lt i j) a):Comes lt ok (.ask i j k) a
theorem Comes.bind{d e:Type}{lt:Nat->Nat->Bool}{ok:Nat->Nat->Prop}{f:d->KasT e}{b:e}{t:KasT d}{a:d}(c:Comes lt ok t a)(q:Comes lt ok (f a) b):Comes lt ok (t.bind f) b:=by
 induction c with
 | ret a=>exact q
 | ask h _ g=>exact .ask h<|g q
section
variable{lt:Nat->Nat->Bool}{n:Nat}
structure Ord (lt:Nat->Nat->Bool) (n:Nat):Prop where
 trans:∀i j k,lt i j=bi->lt j k=bi->lt i k=bi
 total:∀i j,i<n->j<n->i≠j->lt i j=bi\/lt j i=bi
 fw:∀i,lt i i=bn
abbrev okN(n:Nat):Nat->Nat->Prop:=λi j=>i<n/\j<n/\i≠j
structure cQ (p:Array Nat) (n:Nat):Prop where
 size:p.size=n
 lt:∀i,i<n->p.getD i 0<n
 inj:∀i j,i<n->j<n->p.getD i 0=p.getD j 0->i=j
 pm:p.toList.Perm (hB n)
def wu{p q:Array Nat}{i j:Nat}(h:p[i]?=q[j]?):p.getD i 0=q.getD j 0:=by simp[h]
def cQ.ok (P:cQ p n)(a:i<n)(b:j<n)(h:i≠j):okN n (p.getD i 0) (p.getD j 0):=⟨P.lt i a,P.lt j b,λz=>h<|P.inj i j a b z⟩
noncomputable def eV(lt:Nat->Nat->Bool)(p:Array Nat)(m:Nat):Prop:=∀i j,i<j->j<m->lt (p.getD i 0) (p.getD j 0)=bi
def Down(lt:Nat->Nat->Bool)(p:Array Nat)(m:Nat):Prop:=∀i j,i<j->j<m->lt (p.getD j 0) (p.getD i 0)=bi
def eV.succ (O:Ord lt n)(P:cQ p n)(h:eV lt p m)(b:m<n)(h1:1<=m)(hl:lt (p.getD m 0) (p.getD (m-1) 0)=bn):eV lt p (m+1):=by
 intro i j c hj;by_cases z:j<m
 ·exact h i j c z
 have z:j=m:=by lia
 subst z;have a:lt (p.getD (j-1) 0) (p.getD j 0)=bi:=by
  rcases O.total _ _ (P.lt j b) (P.lt (j-1) (by omega)) (λz=>by have:=P.inj j (j-1) b (by omega) z;omega) with q|q
  ·rw[hl] at q;contradiction
  exact q
 by_cases d:i=j-1
 ·rwa[d]
 exact O.trans _ _ _ (h i (j-1) (by omega) (by omega)) a
def Down.succ (O:Ord lt n)(h:Down lt p m)(h1:1<=m)(hl:lt (p.getD m 0) (p.getD (m-1) 0)=bi):Down lt p (m+1):=by
 intro i j a hj;by_cases z:j<m
 ·exact h i j a z
 have z:j=m:=by lia
 subst z;by_cases b:i=j-1
 ·rwa[b]
 exact O.trans _ _ _ hl<|h i (j-1) (by omega) (by omega)
theorem xA (O:Ord lt n)(P:cQ p n):∀(f m:Nat),1<=m->m+f<=n->eV lt p m->∃r,Comes lt (okN n) (kas_asc p f m) r/\m<=r/\r<=m+f/\eV lt p r/\(r<m+f->lt (p.getD r 0) (p.getD (r-1) 0)=bi)
 | 0,m,i,j,g=>⟨m,.ret m,fj _,fj _,g,λh=>by lia⟩
 | f+1,m,i,j,g=>by
  have ak:okN n (p.getD m 0) (p.getD (m-1) 0):=P.ok ⋯ ⋯ (by omega);cases hl:lt (p.getD m 0) (p.getD (m-1) 0) with
  | true=>refine⟨m,.ask ak ?_,fj _,⋯,g,λ_=>hl⟩;rw[hl];exact .ret m
  | false=>obtain⟨r,a,b,c,d,e⟩:=xA O P f (m+1) ⋯ ⋯ (g.succ O P ⋯ i hl);refine⟨r,.ask ak ?_,⋯,⋯,d,λh=>e ⋯⟩;rwa[hl]
theorem EL (O:Ord lt n)(P:cQ p n):∀(f m:Nat),1<=m->m+f<=n->Down lt p m->∃r,Comes lt (okN n) (kas_desc f p m 0) (p,r,0)/\m<=r/\r<=m+f/\Down lt p r
 | 0,m,g,h,e=>⟨m,.ret _,fj _,fj _,e⟩
 | f+1,m,g,h,e=>by
  have ak:okN n (p.getD m 0) (p.getD (m-1) 0):=P.ok ⋯ ⋯ (by omega);cases hl:lt (p.getD m 0) (p.getD (m-1) 0) with
  | true=>obtain⟨r,a,b,c,d⟩:=EL O P f (m+1) ⋯ ⋯ (e.succ O g hl);refine⟨r,.ask ak ?_,⋯,⋯,d⟩;rwa[hl]
  | false =>
   refine⟨m,.ask ak ?_,fj _,⋯,e⟩;rw[hl];have i:lt (p.getD (m-1) 0) (p.getD m 0)=bi:=by
    rcases O.total _ _ ak.1 ak.2.1 ak.2.2 with q|q
    ·rw[hl] at q;contradiction
    exact q
   refine .ask ⟨ak.2.1,ak.1,λz=>ak.2.2 z.symm⟩ ?_;rw[i];exact .ret _
theorem cQ.perm{p q:Array Nat}(P:cQ p n)(d:q.Perm p)(h:q.size=p.size)(f:Nat->Nat)(a:∀i,i<n->f i<n/\q.getD i 0=p.getD (f i) 0)(g:∀i j,i<n->j<n->f i=f j->i=j):cQ q n:=by
 refine⟨h.trans P.size,λi hl=>?_,λi j b c e=>?_,?_⟩
 ·rw[(a i hl).2];exact P.lt _ (a i hl).1
 ·rw[(a i b).2,(a j c).2] at e;exact g i j b c<|P.inj _ _ (a i b).1 (a j c).1 e
 exact (aaA.1 d).trans P.pm
def yJ (a:m<=p.size)(k):(aar p 0 m).getD k 0=if k<m then p.getD (m-1-k) 0 else p.getD k 0:=by have h:=getElem?_mirror_all (i:=0) a k;unfold aar;split;simp_all;rename_i b;rw[if_neg (λz=>b z.2)] at h;exact wu h
def HP (P:cQ p n)(a:m<=n):cQ (aar p 0 m) n:=by
 refine P.perm (by unfold aar;exact mirror_perm _ _ _ _) (by simp[aar,mirror_size]) (λk=>if k<m then m-1-k else k) (λi b=>⟨by (try dsimp only);split<;>omega,?_⟩) λi j b hj e=>?_
 ·rw[yJ (by rw[P.size];exact a)]
  (try dsimp only)
  split<;>rfl
 grind
def Mo (P:cQ p n)(a:m<=n)(h:Down lt p m):eV lt (aar p 0 m) m:=by intro i j hij b;rw[yJ (by rw[P.size];exact a),yJ (by rw[P.size];exact a),if_pos ⋯,if_pos b];exact h _ _ ⋯ ⋯
theorem zx (O:Ord lt n)(P:cQ p n)(j:k<n)(e:eV lt p k):∀(f l r:Nat),l<=r->r<=k->r-l<=f->(∀i,i<l->lt (p.getD i 0) (p.getD k 0)=bi)->(∀i,r<=i->i<k->lt (p.getD k 0) (p.getD i 0)=bi) ->
  ∃m,Comes lt (okN n) (kas_place p k f l r) m/\m<=k/\(∀i,i<m->lt (p.getD i 0) (p.getD k 0)=bi)/\(∀i,m<=i->i<k->lt (p.getD k 0) (p.getD i 0)=bi)
 | 0,l,r,u,s,v,a,b=>⟨l,.ret l,by lia,a,λi o=>b i (by lia)⟩
 | f+1,l,r,u,s,v,a,b=>by
  dsimp only[kas_place];by_cases g:l ≥ r
  ·rw[if_pos g];exact⟨l,.ret l,by lia,a,λi o=>b i (by lia)⟩
  rw[if_neg g];have w:(l+r)/2<r/\l<=(l+r)/2:=⋯;have ak:okN n (p.getD k 0) (p.getD ((l+r)/2) 0):=P.ok j ⋯ (by omega);cases hl:lt (p.getD k 0) (p.getD ((l+r)/2) 0) with
  | true =>
   obtain⟨m,c,d⟩:=zx O P j e f l ((l+r)/2) w.2 (by lia) (by omega) a (λi o t=>by
    by_cases z:i=(l+r)/2
    ·rwa[z]
    exact O.trans _ _ _ hl<|e _ _ ⋯ t)
   refine⟨m,.ask ak ?_,d⟩;rwa[hl]
  | false =>
   have h:lt (p.getD ((l+r)/2) 0) (p.getD k 0)=bi:=by
    rcases O.total _ _ ak.1 ak.2.1 ak.2.2 with q|q
    ·rw[hl] at q;contradiction
    exact q
   obtain⟨m,c,d⟩:=zx O P j e f ((l+r)/2+1) r (by lia) s (by omega) (λi o=>by
    by_cases z:i=(l+r)/2
    ·rwa[z]
    exact O.trans _ _ _ (e i ((l+r)/2) ⋯ (by lia)) h) b
   refine⟨m,.ask ak ?_,d⟩;rwa[hl]
def Lk (b:k<p.size)(hl:l<=k)(i):(bubble p k<|k-l).getD i 0=if i=l then p.getD k 0 else if l<i/\i<=k then p.getD (i-1) 0 else p.getD i 0:=by
 have h:=getElem?_bubble b (k-l) ⋯ i;have e:k-(k-l)=l:=⋯;rw[e] at h;by_cases z:i=l
 ·rw[if_pos z] at h ⊢;exact wu h
 rw[if_neg z] at h ⊢;by_cases a:l<i/\i<=k
 ·rw[if_pos a] at h ⊢;exact wu h
 rw[if_neg a] at h ⊢;exact wu h
theorem Dg(O:Ord lt n):∀(f:Nat) (p:Array Nat) (k:Nat),cQ p n->k+f=n->eV lt p k->∃q,Comes lt (okN n) (kas_bin f p k) q/\cQ q n/\eV lt q n
 | 0,p,k,P,o,g=>⟨p,.ret p,P,by rw[<-o];exact g⟩
 | f+1,p,k,P,o,g=>by
  obtain⟨l,c,hl,a,b⟩:=zx O P (by lia) g k 0 k (pd _) (fj _) (by lia) (λi h=>by lia)<|λi h hik=>by omega
  have m:=Lk (p:=p) (k:=k) (l:=l) (by rw[P.size];omega) hl;have t:cQ (bubble p k<|k-l) n:=by
   refine P.perm (bubble_perm _ _ _) (bubble_size _ _ _) (λi=>if i=l then k else if l<i/\i<=k then i-1 else i) (λi h=>⟨by (try dsimp only);split<;>(try split)<;>omega,?_⟩) λi j h u e=>?_
   ·rw[m]
    (try dsimp only)
    split
    ·rfl
    split<;>rfl
   (try dsimp only at e)
   split at e<;>split at e<;>(try split at e)<;>(try split at e)<;>lia
  have r:eV lt (bubble p k<|k-l) (k+1):=by
   intro i j s u;simp only[m i,m j];split
   ·rw[if_neg (by omega),if_pos (by omega)];exact b (j-1) (by lia) (by lia)
   split
   ·rw[if_neg (by omega),if_pos (by omega)];exact g _ _ (by omega) (by omega)
   split
   ·exact a i (by omega)
   split
   ·exact g _ _ (by lia) (by omega)
   exact g _ _ s (by lia)
  obtain⟨q,d,e⟩:=Dg O f (bubble p k<|k-l) (k+1) t (by lia) r;exact⟨q,Comes.bind c d,e⟩
def FP:cQ (Y5<|hB n) n:=by
 have g:∀i,i<n->(Y5<|hB n).getD i 0=i:=λi a=>by simp[a]
 refine⟨⋯,λi a=>by rw[g i a];exact a,λi j a b e=>by simp only[g i a,g j b] at e;exact e,⋯⟩
def N6(O:Ord lt n)(hn:1<=n):∃q,Comes lt (okN n) (acM n) q/\cQ q n/\eV lt q n:=by
 have P:=FP (n:=n);unfold acM;obtain⟨m,a,b,c,d,e⟩:=xA O P (n-1) 1 (fj _) (by omega)<|λi j l u=>by omega
 have h:∀(p:Array Nat) (m:Nat),cQ p n->1<=m->m<=n->eV lt p m->∃q,Comes lt (okN n) (if m<n then kas_bin (n-max m 1) p (max m 1) else .ret p) q/\cQ q n/\eV lt q n:=λp m P f g hu=>by split;simp_all [Dg];exact⟨p,.ret p,P,by grind⟩
 by_cases k:m=n
 ·obtain⟨q,f,g⟩:=h _ m P b (by lia) d;refine⟨q,Comes.bind (a:=(m,Y5<|hB n)) (Comes.bind a ?_) f,g⟩;rw[if_pos (by simpa using k)];exact .ret _
 by_cases o:m>1
 ·obtain⟨q,f,g⟩:=h _ m P b (by lia) d;refine⟨q,Comes.bind (a:=(m,Y5<|hB n)) (Comes.bind a ?_) f,g⟩;rw[if_neg (by simpa using k),if_pos o];refine .ask (P.ok (by lia) (by omega) (by omega)) ?_;rw[d 0 (m-1) (by omega) (by omega)];exact .ret _
 have v:m=1:=by lia
 subst v;have hl:=e (by lia)
 obtain⟨r,w,b1,c1,x⟩:=EL O P (n-2) 2 (by lia) (by lia) (λi j l u=>by
  have f:i=0:=by lia
  have g:j=1:=by lia
  rw[f,g];exact hl)
 have s:=HP (m:=r) P (by omega);obtain⟨t,y,b2,c2,z,_⟩:=xA O s (n-r) r (by lia) (by lia)<|Mo P (by omega) x;obtain⟨q,f,g⟩:=h _ t s (by lia) (by lia) z;refine⟨q,Comes.bind (a:=(t,aar (Y5<|hB n) 0 r)) (Comes.bind a ?_) f,g⟩;rw[if_neg (by simpa using k),if_neg (by omega)];unfold kas_descPart;apply Comes.bind w;rw[if_neg ⋯];exact Comes.bind y<|.ret _
end
end
section
open PySem.W
theorem Comes.wp (e:∀i j,ok i j->∀C:Bool->ey->Prop,C (lt i j) s->b i j C s)(c:Comes lt ok t a)(q:Q a s):t.kasWp b Q s:=by
 induction c with
 | ret a=>exact q
 | ask h _ f=>exact e _ _ h _<|f q
end
noncomputable def fK(h:ph)(L:dn):Heap:={h with objs:=h.objs.extract 0 L}
def Lu (xs:Array a)(L b:Nat):(xs.extract 0 L)[b]?=if b<L then xs[b]? else am:=by grind
def CW(h)(L b):(fK h L).get? b=if b<L then h.get? b else am:=by delta fK Heap.get?;rw[Lu];by_cases a:b<L;simp_all;rw[if_neg a,if_neg a]
def Hw (e:(fK h L).get? b=al o):b<L/\h.get? b=al o:=by simp_all [CW]
section
variable{X:Cx}{pins:List (dn×Th)}{σ:St}{H:Hp}{s:ey}{pos:H9}{e:hH}
def Inv.Hx (I:Inv X pins σ H s)(a:s.heap.Ns X.env.locals m):Fr (fK s.heap X.env.locals) X.env.locals s.heap m :=
 ⟨a,λb o e=>(Hw e).2,by show (s.heap.objs.extract 0 X.env.locals).size<=_;simp[Nat.min_le_left]⟩
def Inv.Lf (I:Inv X pins σ H s)(hl:∀(i:Nat) (x:e6) (v:V),X.N[i]?=al x->σ[i]?=al (al v)->cj X.env.scope x->∃u,RelV v u/\Look X.env s.heap m x u)(j:h'.Ns X.env.locals m)(keep:∀b o,b≠X.env.locals->s.heap.get? b=al o->h'.get? b=al o):Inv X pins σ H {s with heap:=h',toks:=tk}:=by
 have kA:=I.kA;have f:∀b o,X.eG.heap.get? b=al o->b≠X.env.locals:=λb o e=>hQ<|l4 (gg e) I.ok.above;have a:∀x c,X.env.cells.lookup x=al c->∀v,s.heap.IsCell c v->h'.IsCell c v:=λx c e v ⟨o,t,hd⟩=>⟨o,keep c o (kA x c e) t,hd⟩;refine⟨I.ok,I.os,I.bare,⟨λb o e n g hx=>keep b o (f b o e)<|I.base.keep b o e n g hx,λb o e n g hx=>?_,I.base.free,λb o e hx=>?_,I.base.jo,I.base.iP,I.base.iM⟩,⟨m,j,λi x v w y A=>?_⟩,λx c e=>?_,I.free,I.hJ,λp B=>?_,?_,I.len⟩
 ·obtain⟨C,q⟩:=I.base.slot b o e n g hx;exact⟨C,keep b _ (f b o e) q⟩
 ·obtain⟨h,q⟩:=I.base.there b o e hx;exact⟨h,keep b h (f b o e) q⟩
 ·obtain⟨u,r,l⟩:=hl i x v w y A;refine⟨u,r,?_⟩;rcases l with l|⟨k,c,e,z⟩
  ·exact ι l
  exact τ ⟨k,c,e,a x c e _ z⟩
 ·obtain⟨v,z⟩:=I.cell x c e;exact⟨v,a x c e v z⟩
 ·obtain⟨e,n,ne,nf,d⟩:=I.pin p B;exact⟨keep p.1 p.2 ne e,n,ne,nf,d⟩
 exact I.ak.tracked λb u g e=>keep b u (λz=>g<|z ▸ I.free) e
theorem AA (F:Fr (fK h L) L h' m)(N:News (fK h L) L h' a)(sub:∀q∈mX (fK h L) h L,q∈a):∀b o,b≠L->h.get? b=al o->h'.get? b=al o:=λb o c e=>by
 by_cases hl:b<L
 ·exact F.keep b o<|(λhb e=>by simp_all [CW]) hl e
 have d:(fK h L).get? b=am:=by
  cases q:(fK h L).get? b with
  | none=>rfl
  | some u=>exact absurd (Hw q).1 hl
 exact (N _<|sub _<|xg c d e).1
def Mf{prog:kH}{w:pe}{A:qp}{E:cA->ey->Prop}{s:ey}{a:dn}{vs:List cA}{n:Nat}{P:Fin->ey->Prop}(f:s.heap.get? a=al (Yb "list" vs.toArray n))(q:vs.length<2)
 (h:∀h' c,h'.get? a=al (Yb "list" vs.toArray c)->(∀b o,b≠a->s.heap.get? b=al o->h'.get? b=al o)->P (.done<|.ret .none) {s with heap:=h'}) :
  hX (k5 prog w) A (Yy.«list.sort» ⟨[.ref a],[]⟩) P E s:=by
 rw[list_sort_plain];have l:=gg f;refine cW<|listItems_at f ρ ?_;refine cW<|adv f ρ ?_;obtain⟨k,j⟩:∃k,(s.heap.update a (Yi λ_=>#[])).get? a=al (Yb "list" #[] k) :=
  ⟨_,ac3 f<|λ_=>#[]⟩
 refine cW<|seqEpoch_at j ρ<|cW<|wpAny_newTuple (cW<|abb<|u5 ?_) (by rw[zd];simp;omega);generalize m:(((s.heap.update a (Yi λ_=>#[])).push (Yb "tuple" vs.toArray 0)).push (Yb "list" #[] 0))=g at *;have d:g.get? a=al (Yb "list" #[] k):=by
  rw[<-m,abI _ _ _ (by rw[size_push',Z6];exact hQ<|YQ l),
   abI _ _ _ (by rw[Z6];exact hQ l)]
  exact j
 have kp:∀b o,b≠a->s.heap.get? b=al o->g.get? b=al o:=λb o i e=>by rw[<-m];refine e7 _<|e7 _ ?_;rw[Xu _ _ (Ne.symm i)];exact e
 dsimp only;have p:vs.toArray.size<2:=by simpa using q
 rw[if_pos p,if_pos p];refine cW<|fm ?_;refine cW<|fm ?_;dsimp only;refine cW<|seqEpoch_at d ρ<|cW<|adv d ρ ?_ (hsz2:=by simp[ab6,acz];rw[zd];omega);simp only[bne_self_eq_false,yv];refine fm ?_;have r:Array.map (λx=>x.2) (ab6<|acz general' (vs.toArray.zip vs.toArray) #[] 7 am)=vs.toArray:=by rw[List.zip_toArray,List.map_toArray,abS<|fj _]
 rw[r];refine h _ _ (ac3 d<|λ_=>vs.toArray) λb o i e=>?_;rw[Xu _ _ (Ne.symm i)];exact kp b o i e
def Inv.yO (I:Inv X pins σ H s)(hl:∀(i:Nat) (x:e6) (v:V),X.N[i]?=al x->σ[i]?=al (al v)->cj X.env.scope x->∃u,RelV v u/\Look X.env s.heap m x u)(h:h'.Ns X.env.locals m)(keep:∀b o,b≠X.env.locals->s.heap.get? b=al o->h'.get? b=al o)(j:s.heap.get? D=am)(hex:∀b∈X.ex,∃o,s.heap.get? b=al o)(f:cB X.prog X.w (upd H D o) h' D o):Inv X pins σ (upd H D o) {s with heap:=h',toks:=tk}:=by
 have J:Inv X pins σ H {s with heap:=h',toks:=tk}:=I.Lf hl h keep;have hHD:=I.ak.dead j;have ne:∀b u,H b=al u->b≠D:=by lia
 have k:X.env.locals≠D:=λz=>by obtain⟨_,⟨oL,_,_,hoL,_⟩,_⟩:=I.loc;simp_all
 refine⟨J.ok,J.os,J.bare,⟨J.base.keep,J.base.slot,λb a e n hx=>?_,J.base.there,λb xs e=>?_,λb a u e=>?_,λb l e=>?_⟩,J.loc,J.cell,?_,λx c e=>?_,λp g=>?_,λb u e=>?_,J.len⟩
 ·have z:b≠D:=λz=>by obtain⟨o',q⟩:=I.base.there b a e hx;simp_all
  rw[ax z];exact J.base.free b a e n hx
 ·have q:=J.base.jo b xs e;rwa[ax (ne b _ q)]
 ·have q:=J.base.iP b a u e;rwa[ax (ne b _ q)]
 ·obtain⟨more,q⟩:=J.base.iM b l e;exact⟨more,by rw[ax (ne b _ q)];exact q⟩
 ·rw[ax k];exact J.free
 ·obtain⟨v,oc,ho,hd⟩:=I.cell x c e;rw[ax (λz=>by simp_all)];exact J.hJ x c e
 ·obtain⟨q,n,nl,nf,d⟩:=J.pin p g;have q0:=(I.pin p g).1;exact⟨q,by rw[ax (λz=>by simp_all)];exact n,nl,nf,d⟩
 by_cases z:b=D
 ·subst z;rw[aT] at e;obtain rfl:=sO e;exact f
 rw[ax z] at e;exact (J.ak b u e).gp (λc w' hc q=>q) (λc q=>by rw[ax (ne c _ q)];exact q) λc xs q=>by rw[ax (ne c _ q)];exact q
def eZ{a:Type}{l:List a}{i:Nat}{d:a}(h:i<l.length):l.getD i d=l[i]:=by simp only[gm,cn h];rfl
noncomputable def oi(fs:List e6)(i j:Nat):Bool:=bd<|(fs.getD i XC).cps.toList<(fs.getD j XC).cps.toList
def lU{a b:e6}(h:a.cps.toList=b.cps.toList):a=b:=by obtain⟨⟨a⟩⟩:=a;simp_all
def N7 (nd:fs.Nodup):Ord (oi fs) fs.length where
 trans:=λi j k c a=>decide_eq_true<|YS (of_decide_eq_true c)<|of_decide_eq_true a
 total:=λi j d f b=>by
  delta oi;rw[eZ d,eZ f];by_cases h:fs[i].cps.toList<fs[j].cps.toList
  ·exact ι<|decide_eq_true h
  refine τ (decide_eq_true ?_);by_cases a:fs[j].cps.toList<fs[i].cps.toList
  ·exact a
  exact absurd ((W3 nd).1 (lU<|Yh (W8.1 a)<|W8.1 h)) b
 fw:=λi=>decide_eq_false<|XN _
def nJ(K:ft)(H:Hp)(vs:List V)(fs:List e6):Prop:=vs.length=fs.length/\∀(i:Nat) (f:e6),fs[i]?=al f->∃a b,vs[i]?=al (.ref a)/\aS K H a b/\b[0]?=al (.str f)
def Ordered(fs:List e6)(vs out:List V):Prop:=∃q:Array Nat,cQ q vs.length/\eV (oi fs) q vs.length/\out=q.toList.map λi=>vs.getD i .aU
def uY(K:ft):List V->Hp->VK->Prop:=λxs H Q=>∃p vs fs,xs=[.ref p]/\Rd H p (.L vs)/\nJ K H vs fs/\fs.Nodup/\vs.length<64/\∀out,Ordered fs vs out->∀l,H l=am->Q (.ref l) (upd H l<|.L out)
theorem GH (r:aC vs its):∀(l:List Nat),(∀i∈l,i<vs.length)->aC (l.map λi=>vs.getD i .aU) (l.map λi=>its.getD i .none)
 | [],_=>.nil
 | i::l,h=>by
  have a:=h i fk;have hi':i<its.length:=by rw[<-r.length];exact a
  refine .cons ?_ (GH r l λj b=>h j<|eR _ b);obtain⟨u,hu,ru⟩:=r.get<|cn a;simp_all
def sC (P:cQ q n):∀i∈q.toList,i<n:=λi b=>by
 obtain⟨k,c,e⟩:=wy b;have a:k<q.size:=by simpa using c
 have:=P.lt k (by rw[<-P.size];exact a);simp_all
theorem kat_tups (I:Inv X pins σ H s):∀{fs:List e6}{vs:List V}{its:List cA},nJ X.K H vs fs->aC vs its ->
  ∃c:List cA,Za s.heap its c/\c.length=fs.length/\(∀v∈c,∃x t,v=Xg x t)/\∀(i:Nat) (f:e6),fs[i]?=al f->∃a o xs n t,its[i]?=al (.ref a)/\s.heap.get? a=al o/\o.data=.seq xs n/\xs[0]?=al (Xg f t)
 | [],[],_,h,r=>by
  cases r;exact⟨[],.nil,ρ,λv j=>by simp at j,λi f e=>by simp at e⟩
 | [],_::_,_,h,_=>by simp[nJ] at h
 | _::_,[],_,h,_=>by simp[nJ] at h
 | f::fs,v::vs,_,h,r=>by
  cases r with
  | cons p rs =>
   obtain⟨a,ws,q,w,y⟩:=h.2 0 f ρ;obtain rfl:=sO q;subst p;have h':nJ X.K H vs fs:=⟨by simpa using h.1,λi g e=>by
    obtain⟨b,us,k,l,A⟩:=h.2 (i+1) g<|e
    exact⟨b,us,by simpa using k,l,A⟩⟩
   obtain⟨c,B,C,D,E⟩:=kat_tups I h' rs;obtain⟨its,F,⟨o,m,G,n,hd⟩,_⟩:=I.tuple w;obtain⟨u,J,L⟩:=F.get y;obtain⟨t,rfl⟩:=L;have d:its.toArray[0]?=al (Xg f t):=by simpa using J
   refine⟨Xg f t::c,.cons m G hd d B,by simp[C],λv j=>?_,λi g e=>?_⟩
   ·rcases eS.1 j with z|z
    ·exact⟨f,t,z⟩
    exact D v z
   cases i with
   | zero=>simp at e;subst e;exact⟨a,o,_,n,t,ρ,m,hd,d⟩
   | succ i=>obtain⟨b,M,xs,N,t',k,l⟩:=E i g<|e;exact⟨b,M,xs,N,t',by simpa using k,l⟩
theorem KatTups.keeps{h h':ph}(k:∀b o xs n,o.data=.seq xs n->h.get? b=al o->h'.get? b=al o){vs fs:List cA}(t:Za h vs fs):Za h' vs fs:=by
 induction vs generalizing fs with
 | nil =>
  cases fs with
  | nil=>exact t
  | cons _ _=>exact t.elim
 | cons _ _ c =>
  cases fs with
  | nil=>exact t.elim
  | cons _ _=>obtain⟨⟨a,o,xs,n,e,d,f,hd,r⟩,t⟩:=t;exact⟨⟨a,o,xs,n,e,k _ _ _ _ hd d,f,hd,r⟩,c t⟩
def uh(lt:Nat->Nat->Bool)(vs out:List V):Prop:=∃q:Array Nat,cQ q vs.length/\eV lt q vs.length/\out=q.toList.map λi=>vs.getD i .aU
theorem Lj(K:X.ex=[])(I:Inv X pins σ H s)(L:aC vs its)(h2:2<=vs.length)(h64:vs.length<64)(O:Ord lt vs.length)(hT:(T==T)=bi)(t:∃a:List cA,Za s.heap its a/\a.length=vs.length/\∀v∈a,∀h:ph,ade (k5 X.prog X.w) h (typeOf v) T)(M:∀i j,i<vs.length->j<vs.length->i≠j->∀h':ph,(∀b o xs n,o.data=.seq xs n->s.heap.get? b=al o->h'.get? b=al o)->∀C:Bool->ey->Prop,C (lt i j) {s with heap:=h'}->hX (k5 X.prog X.w) X.A.in1.in1 (acm (tuples'<|T != .type "tuple") (its.getD i Value.none)<|its.getD j Value.none) C (λ_ _=>False) {s with heap:=h'})(q:∀out,uh lt vs out->∀l,H l=am->Q (.ref l) (upd H l<|.L out))(hn:s.heap.Ns X.env.locals m)(hl:∀(i:Nat) (x:e6) (v:V),X.N[i]?=al x->σ[i]?=al (al v)->cj X.env.scope x->∃u,RelV v u/\Look X.env s.heap m x u)(P:∀p∈mX (fK s.heap X.env.locals) s.heap X.env.locals,p.1<D)(F:Fr (fK s.heap X.env.locals) X.env.locals h' m)(N:News (fK s.heap X.env.locals) X.env.locals h' ((D,Yb "list" #[] r)::mX (fK s.heap X.env.locals) s.heap X.env.locals))(hR:∀S,EP X pins σ Q (.ref D) S->R S) :
  hX (k5 X.prog X.w) X.A.in1.in1 (keyKind' its.toArray) (fun κ s'=>(acM its.length).kasWp (W.kas_ask X.prog X.w X.A.in1.in1 κ its) (λp U=>W.KasFin (fK s.heap X.env.locals) X.env.locals m D r (p.toList.map λi=>its.getD i Value.none) R U) s') (λ_ _=>False) {s with heap:=h'}:=by
 have B:=L.length;obtain⟨oL,esL,epL,Y,Z,_⟩:=id hn;obtain⟨a,t,kl,ks⟩:=t;have kp:=AA F N λq E=>eR _ E;have d:∀b o xs n,o.data=.seq xs n->s.heap.get? b=al o->h'.get? b=al o:=λb o xs n hd G=>kp b o (λz=>by rw[z,Y] at G;obtain rfl:=sO G;rw[Z] at hd;contradiction) G;refine W.kat_kind (KatTups.keeps d t) (by lia) (λv hv=>ks v hv _) hT ?_;obtain⟨qa,cq,J,uq⟩:=N6 O (by lia);rw[<-B];refine cq.wp (λi j ok C hC=>M i j ok.1 ok.2.1 ok.2.2 h' d C hC) ?_;have f:s.heap.get? D=am:=by
  cases y:s.heap.get? D with
  | none=>rfl
  | some o=>have a1:=N (D,Yb "list" #[] r) fk;exact absurd (P _<|xg a1.2.1 a1.2.2 y)<|z9 _
 refine W.KasFin.intro F N (.head λp hp=>hQ<|P p hp) λUC c g k=>hR _ ?_;have UD:=AA g k λq E=>eR _ E;refine⟨.ref D,upd H D<|.L (qa.toList.map λi=>vs.getD i .aU),I.yO hl g.ns UD f (λb hb=>by rw[K] at hb;simp at hb) ?_,ρ,q _ ⟨qa,J,uq,ρ⟩ D<|I.ak.dead f⟩;refine⟨?_,_,c,GH L _<|sC J,(k _ fk).1⟩;rw[bt,qh,J.size,zd];lia
theorem Kk{vs:List V}(h:vs.length<2):vs=(hB vs.length).toArray.toList.map fun i=>vs.getD i .aU:=by
 cases vs with
 | nil=>rfl
 | cons v vs =>
  cases vs with
  | nil=>rfl
  | cons _ _=>simp at h;omega
theorem A4(t:X.ex=[])(I:Inv X pins σ H s)(Y:Rd H p (.L vs))(u:vs.length<64)(O:Ord lt vs.length)(Z:(T==T)=bi)(kt:∀its,aC vs its->∃k:List cA,Za s.heap its k/\k.length=vs.length/\∀v∈k,∀h:ph,ade (k5 X.prog X.w) h (typeOf v) T)(B:∀its,aC vs its->∀i j,i<vs.length->j<vs.length->i≠j->∀h':ph,(∀b o xs n,o.data=.seq xs n->s.heap.get? b=al o->h'.get? b=al o)->∀C:Bool->ey->Prop,C (lt i j) {s with heap:=h'}->hX (k5 X.prog X.w) X.A.in1.in1 (acm (tuples'<|T != .type "tuple") (its.getD i Value.none)<|its.getD j Value.none) C (λ_ _=>False) {s with heap:=h'})(q:∀out,uh lt vs out->∀l,H l=am->Q (.ref l) (upd H l<|.L out)):hX (k5 X.prog X.w) X.A (call (.builtin "sorted") [.ref p]) (EP X pins σ Q) X.xe s:=by
 obtain⟨z,its,n,d,e⟩:=Y.ok I.ak;have hlen:=d.length;have E:s.heap.IsList p its.toArray:=⟨_,e,ρ,n,ρ⟩;obtain⟨m,r,hl⟩:=I.loc;have F:=r;obtain⟨oL,G,J,f,K,_⟩:=F;by_cases h2:2<=its.length
 ·exact W.kat_sorted (I.Hx r) FQ E h2 (by omega) λD e1 h' F' N' L=>Lj t I d (by omega) u O Z (kt its d) (B its d) q r hl L F' N' λ_ x=>x
 refine YH kind_sorted plain_sorted entry_sorted (args_sorted1 _) ?_;unfold Yy.«sorted»;refine cW (m:=checkCount "sorted" 1 1 _)<|fm<|cW<|collect_list E (cW<|abb ?_ (by rw[zd];omega)) (by rw[zd];omega);generalize M:((s.heap.push<|Yb "list" #[] 0).update s.heap.objs.size (Yi (· ++ its.toArray)))=g;have N:g.objs.size=s.heap.objs.size+1:=by rw[<-M,Z6,size_push']
 have P:∀b o,s.heap.get? b=al o->(g.push<|Yb "list" its.toArray 0).get? b=al o:=λb o q=>by have lt:=gg q;refine e7 _ ?_;rw[<-M,Xu _ _<|ZX lt];exact e7 _ q
 have R:(g.push<|Yb "list" its.toArray 0).get? g.objs.size=al (Yb "list" its.toArray 0):=ib _ ρ;refine cW<|u5<|P' aa3 ⟨_,R,ρ⟩ aaO (Mf (s:={s with heap:=g.push (Yb "list" its.toArray 0)}) R (by omega) λh' c hD kp=>⟨_,ρ,fm ⟨_,ρ,?_⟩⟩)<|aa4 _;have a:s.heap.get? g.objs.size=am:=by
  cases y:s.heap.get? g.objs.size with
  | none=>rfl
  | some o=>have:=gg y;rw[N] at this;exact absurd this<|Nat.not_lt.2<|Zq _
 have S:∀b o,b≠X.env.locals->s.heap.get? b=al o->h'.get? b=al o:=λb o _ q=>kp b o (λz=>by rw[z,a] at q;exact nO q)<|P b o q;have U:h'.Ns X.env.locals m:=⟨oL,G,J,kp _ _ (λz=>by rw[z,a] at f;exact nO f)<|P _ _ f,K,by assumption⟩;have one:uh lt vs vs:=by refine⟨(hB vs.length).toArray,FP,λi j hij hj=>by omega,?_⟩;exact Kk (by omega)
 refine⟨.ref g.objs.size,upd H g.objs.size<|.L vs,I.yO (tk:=s.toks) hl U S a (by simp_all) ⟨z,its,c,d,hD⟩,ρ,q vs one _<|I.ak.dead a⟩
theorem Tj(D:X.ex=[]):bP X (.builtin "sorted") (uY X.K):=by
 intro pins s σ H xs us Q I r h;obtain⟨p,vs,fs,rfl,N,c,nd,E,q⟩:=h;obtain⟨u,rfl,O⟩:=r.one;subst O;refine A4 D (T:=.type "str") I N E (by rw[c.1];exact N7 nd) ρ (λits y=>?_) (λits y i j A B F h' n C P=>?_) q
 ·obtain⟨R,S,U,V,_⟩:=kat_tups I c y;refine⟨R,S,by rw[U];exact c.1.symm,λv Y h=>?_⟩;obtain⟨x,t,rfl⟩:=V v Y;exact ZU ρ
 obtain⟨_,_,_,_,w⟩:=kat_tups I c y;rw[c.1] at A B;obtain⟨a,o,xs,n1,t1,Z,a2,G,d⟩:=w i _<|cn A;obtain⟨b,o',ys,n2,t2,b1,b2,J,f⟩:=w j _<|cn B;have ea:its.getD i Value.none=.ref a:=by rw[gm,Z];rfl
 have eb:its.getD j Value.none=.ref b:=by rw[gm,b1];rfl
 rw[ea,eb];apply acL (n _ _ _ _ G a2) G (n _ _ _ _ J b2) J;obtain⟨g,k,ex⟩:∃g k,xs.toList=g::k:=by
  cases hx:xs.toList with
  | nil=>rw[<-px,hx] at d;exact nO d
  | cons g k=>exact⟨g,k,ρ⟩
 obtain⟨l,m,L⟩:∃l m,ys.toList=l::m:=by
  cases hy:ys.toList with
  | nil=>rw[<-px,hy] at f;exact nO f
  | cons l m=>exact⟨l,m,ρ⟩
 rw[<-px,ex] at d;rw[<-px,L] at f;obtain rfl:=sO d;obtain rfl:=sO f;simp only[ex,L];have M:fs[i]≠fs[j]:=λz=>F<|(W3 nd).1 z;refine ab3<|Yt ?_;simp[decide_eq_false M];refine acK<|oneLt_str ?_;have:oi fs i j=bd (fs[i].cps.toList<fs[j].cps.toList):=by unfold oi;rw[eZ A,eZ B]
 simp only[<-this];exact P
def kG(c:List e6):Prop:=c.Pairwise λa b=>¬(b.cps.toList<a.cps.toList)
def AZ (k:YM vs h)(c:xs.Perm (pairsOf vs))(l:SortedToK strKind xs (pairsOf vs).size) :
  ∃a,YM (xs.map (·.2)).toList a/\a.Perm h/\kG a:=by
 obtain⟨a,d,v,_⟩:=sorted_out_str k c l;refine⟨a,d,v,?_⟩;have hsz:xs.size=(pairsOf vs).size:=c.size_eq;have f:∀p,p∈xs.toList->p.1=p.2/\p.1∈vs:=λp n=>mem_zip_self (by
  have hl:xs.toList.Perm (vs.zip vs):=by rw[<-pairsOf_toList];exact aaA.1 c
  exact hl.mem_iff.1 n)
 have g:a.length=xs.size:=by rw[<-d.strs];simp
 have get:∀(i:Nat) (b:i<a.length),KK strKind xs i=a[i].cps.toList:=λi b=>by
  have hx:i<xs.size:=by rw[<-g];exact b
  have w:=d.strs;have m:=f xs[i] ⋯;obtain⟨y,t,o⟩:=k.all _ m.2;have x:xs[i]=(Xg y t,xs[i].2):=by rw[<-o]
  rw[KK_str hx x];have r:a[i]?=al y:=by simp only[<-w,c6,px,Array.getElem?_map,qo hx];simp;rw[<-m.1,o];rfl
  rw[cn b] at r;obtain rfl:=sO r;rfl
 delta kG;rw[oy];intro i j b z u;have q:=l i j (ZY u) (by simp_all);rw[get i b,get j z] at q;exact of_decide_eq_false q
def vc:List V->Hp->VK->Prop:=λxs H Q=>∃p kvs b,xs=[.ref p]/\Rd H p (.dK kvs)/\kvs.map (·.1)=b.map uy/\kvs.length<64/\∀a,a.Perm b->kG a->∀l,H l=am->Q (.ref l) (upd H l<|.L<|a.map V.str)
theorem uZ{us:List cA}{ys:List e6}(h:YM us ys):aC (ys.map V.str) us:=by
 induction h with
 | nil=>exact .nil
 | cons y t _ a=>exact .cons ⟨t,ρ⟩ a
theorem zI:∀{a:List e6}{vs:List cA},vs.length=a.length->(∀(j:Nat) (u:cA),vs[j]?=al u->∃y,a[j]?=al y/\j1 (uy y) u=bi)->YM vs a
 | [],[],_,_=>.nil
 | [],_::_,h,_=>by simp at h
 | _::_,[],h,_=>by simp at h
 | y::a,v::vs,h,k=>by
  obtain⟨y',b,c⟩:=k 0 v ρ;obtain rfl:=sO b;rcases jM c with⟨i,t,z,_⟩|⟨x,t,z,d⟩
  ·contradiction
  cases z;rw[d];exact .cons _ _ (zI (by simpa using h) λj u e=>by simpa using k (j+1) u (e))
theorem RI(hex:X.ex=[])(U:X.calm=bi):bP X (.builtin "sorted") vc:=by
 intro pins s σ H xs us Q I r h;obtain⟨p,kvs,v,rfl,Y,G,h64,q⟩:=h;obtain⟨u,rfl,Z⟩:=r.one;subst Z;obtain⟨z,lo,J,i,dd⟩:=kR I.ak Y;obtain⟨ep,K⟩:=dd.dictAt;obtain⟨m,hn,hl⟩:=I.loc;have A:∀b∈X.ex,∃o,s.heap.get? b=al o:=by simp_all
 have Fl:=I.Hx hn;have Nl:News (fK s.heap X.env.locals) X.env.locals s.heap (mX (fK s.heap X.env.locals) s.heap X.env.locals):=FQ;have hkl:=i.length;have L:=i.keys;have M:v.length=kvs.length:=by simpa using (congrArg List.length G).symm
 refine W.kdu_sorted (W.kdl_dict lo) (I.ok.hd U) Fl Nl K (by rw[zd];lia) λB h' tk vs N C O hvl hv=>?_;have D:YM vs v:=zI (by simp_all) λj u e=>by
  obtain⟨k,x,e1,e2⟩:=hv j u e;have a:(J.map (·.1))[j]?=al k:=by rw[c6,e1];rfl
  simp only[<-L,G,c6] at a;cases P:v[j]? with
  | none=>rw[P] at a;exact nO a
  | some y=>rw[P] at a;obtain rfl:=sO a;exact⟨y,ρ,e2⟩
 have E:=(C _ fk).1;have d:=(C _ fk).2;have g:vs.length<64:=by simp_all
 refine P' aa3 ⟨_,E,ρ⟩ aaO (ac2 abi E D.keysOf (λv₁ v₂ rest e=>abL (by rw[<-e];exact D)) g λf a1 a2=>⟨_,ρ,?_⟩)<|aa4 _;obtain⟨l,b1,R,b3⟩:=AZ D a1 a2;obtain⟨c,hD⟩:=adu E;have n:s.heap.get? B=am:=by
  cases y:s.heap.get? B with
  | none=>rfl
  | some o=>exact absurd (O _<|xg d.1 d.2 y)<|z9 _
 have kp:=AA N C λq hq=>eR _ hq;have t:∀b o,b≠B->h'.get? b=al o->(sortedHeap h' B vs ((ab6 f).map (·.2))).get? b=al o:=λb o F e=>(adj F<|gg e).trans e;have S:(sortedHeap h' B vs ((ab6 f).map (·.2))).Ns X.env.locals m:=by obtain⟨oL,es,T,ho,r⟩:=N.ns;exact⟨oL,es,T,t _ _ (λz=>d.1 z.symm) ho,r⟩
 refine⟨.ref B,upd H B<|.L<|l.map V.str,I.yO hl S (λb o F e=>t b o (by lia)<|kp b o F e) n A ⟨?_,_,c,uZ b1,by omega⟩,ρ,q l R b3 B<|I.ak.dead n⟩;simp only[bt,R.length_eq,M];exact z
theorem pU{f:Type}{R:f->f->Prop}(d:∀a b,R a b->R b a->a=b):∀{l c:List f},l.Perm c->l.Pairwise R->c.Pairwise R->l=c
 | [],c,p,_,_=>(List.Perm.eq_nil p.symm).symm
 | a::l,[],p,_,_=>by cases p.length_eq
 | a::l,b::c,p,h,h'=>by
  rw[tj] at h h';have e:a=b:=by
   have g:=p.mem_iff.1 fk;have i:=p.mem_iff.2 fk;rcases eS.1 g with z|z
   ·exact z
   rcases eS.1 i with y|y
   ·exact y.symm
   exact d a b (h.1 b y)<|h'.1 a z
  subst e;rw[pU d (List.Perm.cons_inv p) h.2 h'.2]
noncomputable def dh(a b:e6):Bool:=!bd (b.cps.toList<a.cps.toList)
def bp(a:List e6):List Str:=a.mergeSort dh
def jd:dh a b=bi ↔ ¬(b.cps.toList<a.cps.toList):=by unfold dh;simp
def ze(a b c)(d:dh a b=bi)(f:dh b c=bi):dh a c=bi:=by rw[jd] at *;grind
def zw(a b):(dh a b||dh b a)=bi:=by grind [dh]
def uE(a):kG (bp a):=by exact (zb (le:=dh) ze zw a).imp λh=>jd.1 h
def rN (p:c.Perm d)(h:kG c):c=bp d :=
 pU (λa b f g=>lU<|Yh (W8.1 f)<|W8.1 g) (p.trans (gn d dh).symm) h (uE d)
noncomputable def mJ:Dat->Option e6
 | .U (.str x::_)=>al x
 | _=>am
noncomputable def firstsD:List Dat->Option (List e6)
 | []=>al []
 | d::r=>(mJ d).bind λx=>(firstsD r).map (x::·)
def iO(d:Dat):Str:=(mJ d).getD XC
def eO(a b:Dat):Bool:=dh (iO a)<|iO b
def sy(ds:List Dat):List Dat:=ds.mergeSort eO
theorem GI:∀{ds:List Dat}{fs:List e6},firstsD ds=al fs->fs=ds.map iO/\∀d∈ds,∃x,mJ d=al x
 | [],_,e=>by obtain rfl:=sO e;exact⟨ρ,λd h=>by simp at h⟩
 | d::r,_,e=>by
  have e:(mJ d).bind (λx=>(firstsD r).map (x::·))=al _:=e;cases b:mJ d with
  | none=>rw[b] at e;exact nO e
  | some x =>
   rw[b] at e;cases a:firstsD r with
   | none=>rw[a] at e;exact nO e
   | some ys=>rw[a] at e;obtain rfl:=sO e;obtain⟨h1,h2⟩:=GI a;simp_all [iO]
theorem CP{K:ft}{H Hi:Hp}(s:ag Hi H):∀{ds:List Dat}{vs:List V}{fs:List e6},firstsD ds=al fs->aw K Hi ds vs->nJ K H vs fs
 | [],_,_,e,r=>by obtain rfl:=sO e;rw[show _=[] from r];exact⟨ρ,λi f e=>by simp at e⟩
 | d::ds,_,_,e,c=>by
  obtain⟨v,vr,j,k,rs⟩:=c;have e:(mJ d).bind (λx=>(firstsD ds).map (x::·))=al _:=e;cases a:mJ d with
  | none=>rw[a] at e;exact nO e
  | some x =>
   rw[a] at e;simp only[ma] at e;cases b:firstsD ds with
   | none=>rw[b] at e;exact nO e
   | some ys =>
    rw[b] at e;obtain rfl:=sO e;obtain⟨l,h2⟩:=CP s b rs;simp only[j];refine⟨by simp[l],λi f g=>?_⟩;cases i with
    | zero =>
     simp at g;subst g;unfold mJ at a;split at a
     ·obtain rfl:=sO a;obtain⟨p,m,rfl,n,w1,wr,o,h,_⟩:=k;subst h;exact⟨p,m,ρ,aS.mono s n,by rw[o];rfl⟩
     exact nO a
    | succ i=>simp_all
theorem aw.pick{K:ft}{H:Hp}{ds:List Dat}{vs:List V}(r:aw K H ds vs):∀(l:List Nat),(∀i∈l,i<vs.length)->aw K H (l.map λi=>ds.getD i .aU) (l.map λi=>vs.getD i .aU)
 | [],_=>rfl
 | i::l,h=>by
  have b:=h i fk;have a:i<ds.length:=by rw[<-r.length];exact b
  obtain⟨v,c,d⟩:=r.get<|cn a;refine⟨vs.getD i .aU,_,ρ,?_,aw.pick r l λj f=>h j<|eR _ f⟩;simp only[gm,c,cn a];exact d
def Aa{a:Type}(l:List a)(d:a):(hB l.length).map (λi=>l.getD i d)=l:=by apply abU ⋯;intro i h1 b;simp only[W2,List.getElem_range,eZ b]
def K5 (nd:(ds.map iO).Nodup)(P:cQ q ds.length)(U:eV (oi<|ds.map iO) q ds.length):(q.toList.map λi=>ds.getD i .aU)=sy ds:=by
 have pm:(q.toList.map λi=>ds.getD i .aU).Perm ds:=by have:=P.pm.map<|λi=>ds.getD i .aU;rwa[Aa] at this
 have m:∀i,i<ds.length->iO (ds.getD i .aU)=(ds.map iO).getD i XC:=λi c=>by rw[eZ c,eZ (by simpa using c)];simp
 have g:(q.toList.map λi=>ds.getD i .aU).Pairwise (λa b=>eO a b=bi/\a∈ds/\b∈ds):=by
  rw[oy];intro i j c d n;have o:i<ds.length:=by rw[<-P.size];simpa using c
  have f:j<ds.length:=by rw[<-P.size];simpa using d
  refine⟨?_,pm.mem_iff.1<|W1 _,pm.mem_iff.1<|W1 _⟩;have u:=U i j n f;have r:q.toList[i]'(by simpa using c)=q.getD i 0:=by simp only[ua,qo (by simpa using c)];simp
  have t:q.toList[j]'(by simpa using d)=q.getD j 0:=by simp only[ua,qo (by simpa using d)];simp
  simp only[W2,r,t];unfold eO;rw[m _ (P.lt i o),m _<|P.lt j f,jd];unfold oi at u;exact λz=>XN _<|YS (of_decide_eq_true u) z
 have k:(sy ds).Pairwise (λa b=>eO a b=bi/\a∈ds/\b∈ds):=by
  refine Yq (λv w p=>⟨p,?_,?_⟩)<|zb (le:=eO) (λa b c d f=>ze _ _ _ d f) (λa b=>zw _ _) ds
  ·exact (gn ds eO).mem_iff.1 v
  exact (gn ds eO).mem_iff.1 w
 refine pU (λa b l x=>?_) (pm.trans (gn ds eO).symm) g k;have e:=lU<|Yh (W8.1<|jd.1 l.1)<|W8.1<|jd.1 x.1;obtain⟨i,c,y⟩:=wy l.2.1;obtain⟨j,d,A⟩:=wy l.2.2;have B:(ds.map iO)[i]'(by simpa using c)=(ds.map iO)[j]'(by simpa using d):=by simp[y,A,e]
 have e3:=(W3 nd).1 B;simp_all
def oX:List Dat->Option Res
 | [.bV a]=>if a.length<64 then al (.O (.L ((bp (a.map (·.1))).map .str))) else am
 | [.L ds]=>(firstsD ds).bind λfs=>if fs.Nodup/\ds.length<64 then al (.O<|.L<|sy ds) else am
 | _=>am
theorem rG{K:ft}{H:Hp}:∀{a:List (e6×Dat)}{kvs:List (Key×V)},bC K H a kvs->kvs.map (·.1)=(a.map (·.1)).map uy
 | [],_,h=>by rw[show _=[] from h];rfl
 | (k,d)::a,_,b=>by obtain⟨v,r,e,q,t⟩:=b;rw[e];simp[rG t]
theorem gE{K:ft}{H:Hp}:∀(a:List e6),aw K H (a.map .str) (a.map V.str)
 | []=>rfl
 | x::r=>⟨.str x,_,ρ,ρ,gE r⟩
theorem BJ:CD X (λxs H Q=>uY X.K xs H Q\/vc xs H Q) oX:=by
 intro H0 ps Z σ H Hi vs ds o Q a S r k;delta oX at a;split at a
 ·rename_i t;split at a
  ·rename_i b;obtain rfl:=sO a;obtain⟨v,u,rfl,⟨p,kvs,rfl,w,g⟩,f⟩:=r;subst f;refine τ ⟨p,kvs,t.map (·.1),ρ,Rd.of<|S.sub _ _ w,rG g,by rw[bC.length g];exact b,λss' pm h l hl=>?_⟩;rw[rN pm h];exact k (.ref l) _ Hi (S.made hl) (ag.refl _) ⟨l,ρ,⟨_,aT,gE _,S.cX hl⟩,(S.bB hl).2,(S.bB hl).1,S.dO hl⟩
  exact nO a
 ·rename_i j;cases d:firstsD j with
  | none=>rw[d] at a;exact nO a
  | some fs =>
   rw[d] at a;simp only[ma] at a;split at a
   ·rename_i b;obtain rfl:=sO a;obtain⟨v,u,rfl,⟨p,x,rfl,y,rs⟩,f⟩:=r;subst f;have c:=rs.length;refine ι ⟨p,x,fs,ρ,Rd.mono S.sub y,CP S.sub d rs,b.1,by rw[c];exact b.2,λout h l hl=>?_⟩;obtain⟨q,P,U,z⟩:=h;obtain⟨m,_⟩:=GI d;subst m;simp[c] at P U;have A:=K5 b.1 P U;subst z;have n:=aw.pick rs q.toList (λi B=>by rw[c];exact sC P i B);rw[A] at n;exact k (.ref l) _ Hi (S.made hl) (ag.refl _) ⟨l,ρ,⟨_,aT,n,S.cX hl⟩,(S.bB hl).2,(S.bB hl).1,S.dO hl⟩
   exact nO a
 exact nO a
structure pG (x:e6):Prop where
 mark:True
def B4 (hl:pG x)(hnd:N.Nodup)(hXN:X.N=N)(hkb:(gR scope).findIdx? (·==x)=al kb)(hj:N.findIdx? (·==x)=al j)(h:X.calm=bi)(B:iX X.env.scope scope)(f:gA X.N (gR scope) scope (nV N scope)=bi)(i:∀x,ti iter X.env x=pure x)(k:cO X d iter fi)(l:∀(b:List (e6×dn)) (C:dn) (a:ey) (H:Hp) (c:List dn),DG (bT X (gR scope) scope b C a H c) d g)(m:∀(b:List (e6×dn)) (C:dn) (a:ey) (H:Hp) (c:List dn),kK (bT X (gR scope) scope b C a H c) ifs fc)(n:∀(b:List (e6×dn)) (C:dn) (a:ey) (H:Hp) (c:List dn),DD (bT X (gR scope) scope b C a H c) elt fe):DE X (.ListComp elt [⟨d,iter,ifs,0⟩] scope pos) (dJ (nV N scope) (al (kb,j)) fi g fc fe):=NL kb j h B f k l m n i
end
noncomputable def fX:List Dat->List Dat->Bool
 | [],[]=>true
 | x::xs,y::ys=>cY x y&&fX xs ys
 | _,_=>false
def mZ(i j):cY (.int i) (.int j)=bd (i=j):=by rfl
def mH(i j):cY (.str i) (.str j)=bd (i=j):=by rfl
theorem zf:∀xs ys:List Dat,ab4 (cZ xs) (cZ ys)=fX xs ys
 | [],[]=>by rfl
 | x::xs,[]=>by rfl
 | [],y::ys=>by rfl
 | x::xs,y::ys=>by simp only[cZ,ab4,zf xs ys];rfl
def As(xs ys):cY (.U xs) (.U ys)=fX xs ys:=by show Xq (.tuple<|cZ xs) (.tuple<|cZ ys)=_;simp only[Xq,zf]
def iF(xs ys):cY (.L xs) (.L ys)=fX xs ys:=by show Xq (.list<|cZ xs) (.list<|cZ ys)=_;simp only[Xq,zf]
noncomputable def g8:Dat->Bool
 | .aU=>true
 | .bl _=>true
 | .int _=>true
 | .str x=>u3 x
 | _=>false
def jk:Dat->Bool
 | .U ds=>ds.all g8
 | .L ds=>ds.all g8
 | d=>g8 d
def uN (h:g8 d=bi):gG d=bi/\(toPy d).canLay0=bi/\(toPy d).depth=0:=by
 cases d<;>first|cases h|skip
 ·exact⟨ρ,by rw[toPy,W0],by rfl⟩
 ·exact⟨ρ,by rw[toPy,W0],by rfl⟩
 ·exact⟨ρ,by rw[toPy,W0],by rfl⟩
 exact⟨ρ,by rw[toPy,W0];exact h,by rfl⟩
theorem sk{n:Nat}{p:Dat->Bool}(e:∀d,p d=bi->gG d=bi/\(toPy d).canLay0=bi/\(toPy d).depth<=n):∀{ds:List Dat},ds.all p=bi->kj ds=bi/\YF (cZ ds)=bi/\Z5 (cZ ds)<=n
 | [],_=>⟨ρ,by rw[cZ,YF],by simp[cZ,Z5]⟩
 | d::ds,h=>by
  simp only[YT,gj] at h;obtain⟨a,b,c⟩:=e d h.1;obtain⟨f,g,c'⟩:=sk e h.2;refine⟨?_,?_,?_⟩
  ·simp only[kj,a,f];rfl
  ·simp only[cZ,YF,b,g];rfl
  dsimp only[cZ,Z5];lia
theorem zZ (h:jk d=bi):gG d=bi/\(toPy d).canLay0=bi/\(toPy d).depth<=1:=by
 have k:=@sk 0 g8 λd h=>⟨(uN h).1,(uN h).2.1,acS (uN h).2.2⟩;have l:g8 d=bi->gG d=bi/\(toPy d).canLay0=bi/\(toPy d).depth<=1:=by simp_all [uN]
 cases d with
 | U ds=>obtain⟨a,b,c⟩:=k h;simp_all [gG,toPy,W0,PyData.depth]
 | L ds=>obtain⟨a,b,c⟩:=k h;simp_all [gG,toPy,W0,PyData.depth]
 | _=>exact l h
def mR (h:jk d=bi):bJ d=bi:=by obtain⟨a,b,c⟩:=zZ h;dsimp only[bJ,ZJ];lia
def EN (h:ds.all jk=bi):bJ (.L ds)=bi:=by obtain⟨a,b,c⟩:=@sk 1 jk (λd h=>zZ h) ds h;dsimp only[bJ,ZJ];simp only[gG,toPy,W0,PyData.depth,a,b];simp;lia
def lZ:bJ (.int i)=bi:=mR ρ
def kL (h:u3 x=bi):bJ (.str x)=bi:=mR h
theorem p7(d):∀ds:List Dat,inD d ds=ds.any λy=>cY y d
 | []=>by rfl
 | y::r=>by have:=p7 d r;unfold inD at this ⊢;simp only[cZ,XX,this];rfl
noncomputable def after(g:SF):Out->Option Out
 | .next Z=>g Z
 | o=>al o
noncomputable def pick (b:Bool)(x y:a):a:=if b=bi then x else y
section
variable{f g:DF}{e:EF}{c c':BF}{s s':SF}{a:AF}{Z Z1 Z2 Z3:DS}{d d':Dat}{ds:List Dat}{r:Res}{b b':Bool}{o o1:Out}{oo:Option Out}{Q:Out->Prop}{K:ft}{H Hi H' Hi':Hp}{os:List (Option Dat)}{σ:St}{H0:Hp×Hp}{ps:Nat->Option dn}{P:kH}{w:pe}{mg:e6->Option cA}{base:ph}
def v_after{g:SF}:(iq s g Z)=(s Z).bind (after g):=by rfl
def uu{g:SF}(h:s Z=al o1)(h':after g o1=oo):iq s g Z=oo:=by rw[v_after,h];exact h'
def uI{g:SF}(h:g Z=oo):after g (.next Z)=oo:=h
def MO{g:SF}{i:Res}{Z':DS}(h:r=i)(h':Z=Z'):after g (.ret r Z)=al (.ret i Z'):=by rw[<-h,<-h'];rfl
def Od:(Res.D d).val=d:=ρ
def yz(h:c Z=al (b,Z1))(h':pick b (s Z1) (s' Z1)=oo):jl c s s' Z=oo:=by unfold jl;rw[h];exact h'
def Cu (j:b=bi)(h:x=z):pick b x y=z:=by subst j;exact h
def nz (j:b=bn)(h:y=z):pick b x y=z:=by subst j;exact h
def v_and(h:c Z=al (b,Z1))(h':pick b (c' Z1) (al (false,Z1))=al (b',Z2)):k8 c c' Z=al (b',Z2):=by unfold k8;rw[h];exact h'
def mK(h:c Z=al (b,Z1))(h':c' Z1=al (b',Z1)):k8 c c' Z=al (b&&b',Z1):=by
 delta k8;rw[h];cases b
 ·rfl
 exact h'
def v_or(h:c Z=al (b,Z1))(h':pick b (al (true,Z1)) (c' Z1)=al (b',Z2)):o7 c c' Z=al (b',Z2):=by unfold o7;rw[h];exact h'
def BA(h:c Z=al (b,Z1))(h':c' Z1=al (b',Z1)):o7 c c' Z=al (b||b',Z1):=by
 delta o7;rw[h];cases b
 ·exact h'
 rfl
def mG(h:c Z=al (b,Z1)):sM c Z=al (!b,Z1):=by simp_all [sM]
def fq(h:f Z=al (d,Z1))(h':sG d=al b):lK f Z=al (b,Z1):=by simp_all [lK]
def bM(h:e Z=al (.D<|.bl b,Z1)):dP e Z=al (b,Z1):=by unfold dP;rw[h];rfl
def uV(h:f Z=al (.bl b,Z1))(h':g Z1=al (.bl b',Z1)):mM f g Z=al (.bl<|b&&b',Z1):=by
 delta mM;rw[h];cases b
 ·rfl
 exact h'
def wG(h:f Z=al (.bl b,Z1))(h':g Z1=al (.bl b',Z1)):oZ f g Z=al (.bl (b||b'),Z1):=by
 delta oZ;rw[h];cases b
 ·exact h'
 rfl
def v_res(h:f Z=al (d,Z1)):wA f Z=al (.D d,Z1):=by simp_all [wA]
def ai(h:e Z=al (r,Z1))(h':r.val=d):ij e Z=al (d,Z1):=by simp_all [ij]
def au (h:f Z=al (d,Z1))(h1:g Z1=al (d',Z2))(h2:op d d'=al r):bW op f g Z=al (r,Z2):=by simp_all [bW]
def RO (h:f Z=al (d,Z1))(h':sU d T=al b):mQ T f Z=al (.bl b,Z1):=by simp_all [mQ]
def aO (h:a Z=al (ds,Z1))(h':fn ds=al r):cb fn a Z=al (r,Z1):=by simp_all [cb]
def dM (h0:(Z[i]?).bind ownOf=al j)(h:a Z=al (ds,Z1))(h1:(Z1[i]?).bind ownOf=al t)(h2:fn t.2 ds=al (r,d'))(h3:Z1.set i (kindAt t.1 d')=Z2):sT fn i a Z=al (r,Z2):=by simp_all [sT]
def ao:lJ Z=al ([],Z):=ρ
def af(h:f Z=al (d,Z1))(h':a Z1=al (ds,Z2)):fO f a Z=al (d::ds,Z2):=by simp_all [fO]
def cG(h:a Z=al (ds,Z1))(h':ds.length<=dk):uj a Z=al (.O<|.L ds,Z1):=by unfold uj;rw[h];exact if_pos h'
def gv(h:a Z=al (ds,Z1))(h':ds.length<=dk):ud a Z=al (.U ds,Z1):=by unfold ud;rw[h];exact if_pos h'
def Dp{n c:Dat}(h:f Z=al (c,Z1))(h1:g Z1=al (n,Z2))(h2:cp c n=al d):rL f g Z=al (d,Z2):=by simp_all [rL]
def bc{i:Nat}{c0 n c:Dat}(h0:(Z[i]?).bind j8=al c0)(h1:g Z=al (n,Z1))(h:(Z1[i]?).bind j8=al c)(h2:cp c n=al d):jr i g Z=al (d,Z1):=by simp_all [jr]
def fH{i n:Nat}{c:Dat}(h0:(Z[i]?).bind j8=al c)(h:dg c=al n):qU i Z=al (.int n,Z):=by simp_all [qU]
def Au(h:e Z=al (r,Z1)):lG e Z=al (.ret r Z1):=by simp_all [lG]
def nc (h:e Z=al (r,Z1))(h':mF i r Z1=al Z2):gQ i e Z=al (.next Z2):=by simp_all [gQ]
theorem GU{g:GF}(h:f Z=al (d,Z1))(h':g d Z1=al Z2):oO g f Z=al (.next Z2):=by unfold oO;rw[h];show (g d Z1).map _=_;rw[h'];rfl
def oQ(h:f Z=al (d,Z1)):ng f Z=al (.next Z1):=by simp_all [ng]
def gB (h:F Z=al x):alt F G Z=al x:=by unfold alt;rw[h]
def Gm{o1 o2:Dat->Dat->Option Res}(i:f Z=al (x,Z1))(j:g Z1=al (y,Z2))(k:o1 x y=al (.D<|.bl b))(hh:h Z2=al (z,Z2))(h2:o2 y z=al (.D<|.bl b')):lE o1 o2 f g h Z=al (.bl<|b&&b',Z2):=by
 unfold lE;simp only[i];show (g Z1).bind _=_;rw[j];simp only[ma,k];cases b
 ·rfl
 simp_all
def Ml{o1 o2:Dat->Dat->Option Res}(hh:lE o1 o2 f g h Z=al (.bl b,Z1)):sX o1 o2 f g h Z=al (b,Z1):=by unfold sX;rw[hh];rfl
def yW{C:Int->Int->Bool}{g:Int->Int->Dat}(h:C i j=bi):fR C g (.int i) (.int j)=al (.D<|g i j):=if_pos h
def v_eq (h:bJ x=bi)(h':bJ y=bi):dR false x y=al (.D<|.bl<|cY x y):=by unfold dR;rw[h,h'];rfl
def qj (h:bJ x=bi)(h':bJ y=bi):dR true x y=al (.D<|.bl<|!cY x y):=by unfold dR;rw[h,h'];rfl
def EY (h:x.length+y.length<=dk):iJ (.str x) (.str y)=al (.D<|.str<|x++y):=if_pos h
def pL (h:x.length+y.length<=dk):iJ (.L x) (.L y)=al (.O<|.L<|x++y):=if_pos h
def zK (h:F Z=am)(h':G Z=al x):alt F G Z=al x:=by simp_all [alt]
def Fi (h:s (iL n ds)=al (.ret r Z)):jj n s ds=al r:=by unfold jj;rw[h];rfl
def xI (h:s (jN n j c0 ds)=al (.ret r Z))(h':Z[j]?=al (.io i)):og n j s c0 ds=al (r,i):=by simp_all [og]
def vD (h:f Z=al (d,Z1))(h0:(Z1[i]?).bind ownOf=al m)(h1:l Z1=al (.int k,Z2))(h2:(Z2[i]?).bind ownOf=al (b,.L xs))(h3:fZ xs.length k=al j)(h4:Z2.set i (kindAt b<|.L<|xs.set j d)=Z3):r8 i l f Z=al (.next Z3):=by simp_all [r8]
def B9:dR false (.int i) (.int j)=al (.D<|.bl<|bd<|i=j):=by rw[v_eq lZ lZ,mZ]
def wX (h:u3 i=bi)(h':u3 j=bi):dR false (.str i) (.str j)=al (.D<|.bl<|bd<|i=j):=by rw[v_eq (kL h) (kL h'),mH]
theorem Ac{g:GF}{fc:BF}{fe:DF}(I:Nat->List Dat->DS->Prop):∀(xs:List Dat) (n:Nat) (i:List Dat) (Z:DS),I n i Z->i.length+xs.length<=dk ->
  (∀(k:Nat) (x:Dat),xs[k]?=al x->∀i Z,I (n+k) i Z->∃Z1 b Z2,g x Z=al Z1/\fc Z1=al (b,Z2)/\((b=bn/\noOwn Z2=bi/\I (n+k+1) i Z2)\/∃d Z3,b=bi/\fe Z2=al (d,Z3)/\noOwn Z3=bi/\I (n+k+1) (i++[d]) Z3)) ->
  ∃l Z',I (n+xs.length) l Z'/\compLoop g fc fe xs i Z=al (l,Z')
 | [],n,i,Z,h,_,_=>⟨i,Z,h,ρ⟩
 | x::xs,n,i,Z,h,B,k=>by
  have u:∀(j:Nat) (y:Dat),xs[j]?=al y->∀i Z,I (n+1+j) i Z->∃Z1 b Z2,g y Z=al Z1/\fc Z1=al (b,Z2)/\((b=bn/\noOwn Z2=bi/\I (n+1+j+1) i Z2)\/∃d Z3,b=bi/\fe Z2=al (d,Z3)/\noOwn Z3=bi/\I (n+1+j+1) (i++[d]) Z3):=λj y C i Z D=>by have:=k (j+1) y C i Z (by rw[show n+(j+1)=n+1+j from by lia];exact D);rw[show n+(j+1)+1=n+1+j+1 from by lia] at this;exact this
  have v:n+(x::xs).length=n+1+xs.length:=by simp only[gi];lia
  obtain⟨Z1,b,Z2,z,A,E⟩:=k 0 x ρ i Z h;rcases E with⟨rfl,m,p⟩|⟨d,Z3,rfl,F,m,p⟩
  ·obtain⟨l,Z',q,t⟩:=Ac I xs (n+1) i Z2 p (by omega) u;refine⟨l,Z',v ▸ q,?_⟩;show (g x Z).bind _=_;simp[z];rw[A];show (if noOwn Z2=bi then compLoop g fc fe xs i Z2 else am)=_;rw[if_pos m];exact t
  obtain⟨l,Z',q,t⟩:=Ac I xs (n+1) (i++[d]) Z3 p (by rw[eW];simp;omega) u;refine⟨l,Z',v ▸ q,?_⟩;show (g x Z).bind _=_;simp[z];rw[A];show (fe Z2).bind _=_;rw[F];show (if i.length<dk/\noOwn Z3=bi then _ else am)=_;rw[if_pos ⟨by omega,m⟩];exact t
def WS(s:SF)(Z:DS)(Q:Out->Prop):Prop:=∃o,s Z=al o/\Q o
def AQ(g:SF)(Q:Out->Prop):Out->Prop
 | .next Z=>WS g Z Q
 | .ret r Z=>Q (.ret r Z)
 | .brk Z=>Q (.brk Z)
 | .cont Z=>Q (.cont Z)
 | .exc C Z=>Q<|.exc C Z
def WB(c:BF)(Z:DS)(Q:Bool->DS->Prop):Prop:=∃b Z1,c Z=al (b,Z1)/\Q b Z1
def WS.mono (h:WS s Z Q)(k:∀o,Q o->i o):WS s Z i:=⟨h.choose,h.choose_spec.1,k _ h.choose_spec.2⟩
theorem aj{g:SF}(h:WS s Z (AQ g Q)):WS (iq s g) Z Q:=by
 obtain⟨o,e,q⟩:=h;cases o with
 | next Z1=>obtain⟨o2,i,j⟩:=q;exact⟨o2,by rw[v_after,e];exact i,j⟩
 | ret r Z1=>exact⟨_,by rw[v_after,e];rfl,q⟩
 | brk Z1=>exact⟨_,by rw[v_after,e];rfl,q⟩
 | cont Z1=>exact⟨_,by rw[v_after,e];rfl,q⟩
 | exc C Z1=>exact⟨_,by rw[v_after,e];rfl,q⟩
def aZ(q:Q (.next Z)):WS kM Z Q:=⟨_,ρ,q⟩
def aq{g:SF}(h:WS g Z Q):AQ g Q (.next Z):=h
def dS{g:SF}(h:Q (.ret r Z)):AQ g Q (.ret r Z):=h
def aH (h:e Z=al (r,Z1))(h':mF i r Z1=al Z2)(q:Q (.next Z2)):WS (gQ i e) Z Q:=⟨_,nc h h',q⟩
theorem Dd{g:GF}(h:f Z=al (d,Z1))(h':g d Z1=al Z2)(q:Q (.next Z2)):WS (oO g f) Z Q:=⟨_,GU h h',q⟩
def cc(h:e Z=al (r,Z1))(q:Q (.ret r Z1)):WS (lG e) Z Q:=⟨_,Au h,q⟩
def nT(h:f Z=al (d,Z1))(q:Q (.next Z1)):WS (ng f) Z Q:=⟨_,oQ h,q⟩
def AI(h:WB c Z λb Z1=>(b=bi->WS s Z1 Q)/\(b=bn->WS s' Z1 Q)):WS (jl c s s') Z Q:=by
 obtain⟨b,Z1,e,j,k⟩:=h;cases b
 ·obtain⟨o,i,q⟩:=k ρ;exact⟨o,yz e i,q⟩
 obtain⟨o,i,q⟩:=j ρ;exact⟨o,yz e i,q⟩
def fJ(h:c Z=al (b,Z1))(t:b=bi->WS s Z1 Q)(n:b=bn->WS s' Z1 Q):WS (jl c s s') Z Q:=AI ⟨b,Z1,h,t,n⟩
def uL{Q:Bool->DS->Prop}(h:c Z=al (b,Z1))(q:Q b Z1):WB c Z Q:=⟨b,Z1,h,q⟩
def BU{Q:Bool->DS->Prop}(h:WB c Z λb Z1=>(b=bi->WB c' Z1 Q)/\(b=bn->Q false Z1)):WB (k8 c c') Z Q:=by
 obtain⟨b,Z1,e,i,j⟩:=h;cases b
 ·exact⟨false,Z1,v_and e ρ,j ρ⟩
 obtain⟨b',Z2,k,q⟩:=i ρ;exact⟨b',Z2,v_and e k,q⟩
def xK(N:DS->Prop)(Q:Out->Prop):Out->Prop
 | .next Z=>N Z
 | .cont Z=>N Z
 | .brk Z=>Q (.next Z)
 | .ret r Z=>Q (.ret r Z)
 | .exc _ _=>False
theorem FV{g:GF}{fb:SF}{Q:Out->Prop}(I:Nat->DS->Prop):∀(xs:List Dat) (n:Nat) (Z:DS),I n Z->(∀(k:Nat) (x:Dat),xs[k]?=al x->∀Z,I (n+k) Z->∃Z1,g x Z=al Z1/\WS fb Z1 (xK (I<|n+k+1) Q)) ->
  (∀Z,I (n+xs.length) Z->Q (.next Z))->WS (forLoop g fb xs) Z Q
 | [],n,Z,h,_,i=>⟨_,ρ,i Z h⟩
 | x::xs,n,Z,h,k,i=>by
  obtain⟨Z1,l,o,m,q⟩:=k 0 x ρ Z h;have go:∀Z2,I (n+0+1) Z2->WS (forLoop g fb xs) Z2 Q:=λZ2 p=>FV I xs (n+1) Z2 p (λj y t Z u=>by
   have:=k (j+1) y t Z (by rw[show n+(j+1)=n+1+j from by lia];exact u);rw[show n+(j+1)+1=n+1+j+1 from by lia] at this
   exact this)<|λZ hd=>i Z (by simp only[gi,show n+(xs.length+1)=n+1+xs.length from by lia];exact hd)
  have hh:∀oo,fb Z1=al oo->forLoop g fb (x::xs) Z=match oo with
   | .next Z2=>forLoop g fb xs Z2
   | .cont Z2=>forLoop g fb xs Z2
   | .brk Z2=>al (.next Z2)
   | .ret r Z2=>al (.ret r Z2)
   | .exc _ _=>am:=λoo v=>by
   show (g x Z).bind _=_;rw[l];show (fb Z1).bind _=_;rw[v];cases oo<;>rfl
  have hh:=hh o m;delta WS;cases o with
  | next Z2=>rw[hh];exact go Z2 q
  | cont Z2=>rw[hh];exact go Z2 q
  | brk Z2=>rw[hh];exact⟨_,ρ,q⟩
  | ret r Z2=>rw[hh];exact⟨_,ρ,q⟩
  | exc C Z2=>exact q.elim
def fu{fi:IF}{g:GF}{fb:SF}(I:Nat->DS->Prop)(h:fi Z=al (ds,Z1))(l:I 0 Z1)(st:∀(k:Nat) (x:Dat),ds[k]?=al x->∀Z,I k Z->∃Z1,g x Z=al Z1/\WS fb Z1 (xK (I<|k+1) Q))
 (i:∀Z,I ds.length Z->Q (.next Z)):WS (oG fi g fb) Z Q:=by
 have:=FV I ds 0 Z1 l (λk x hx Z j=>by
  obtain⟨Z1,m,w⟩:=st k x hx Z (by rw[I9] at j;exact j)
  exact⟨Z1,m,by rw[I9];exact w⟩)<|λZ hd=>i Z (by rw[I9] at hd;exact hd)
 obtain⟨o,e,q⟩:=this;exact⟨o,(λh h'=>by unfold oG;rw[h];exact h') h e,q⟩
def D0{caps:List (Option Nat)}{fi:IF}{g:GF}{fc:BF}{fe:DF}{out:List Dat}{i:DS}(h:fi Z=al (ds,Z1))(hf:aV am caps Z1=Z2)(hl:compLoop g fc fe ds [] (b8 caps Z2)=al (out,i)):dJ caps am fi g fc fe Z=al (.O<|.L out,Z2):=by simp_all [dJ]
def Qt{caps:List (Option Nat)}{k j:Nat}{fi:IF}{g:GF}{fc:BF}{fe:DF}{out:List Dat}{i:DS}{c0 l:Dat}(h:fi Z=al (ds,Z1))(hf:aV (al (k,j)) caps Z1=Z2)(hc:caps[k]?=al (al j))(hj:Z2[j]?=al (.io c0))
 (hl:compLoop g fc fe ds [] ((b8 caps Z2).set k (.io c0))=al (out,i))(hk:i[k]?=al (.io l))(h3:Z2.set j (.io l)=Z3):dJ caps (al (k,j)) fi g fc fe Z=al (.O<|.L out,Z3):=by
 simp_all [dJ]
theorem FX{g:GF}{fc:BF}{fe:DF}{m:DS}(put:Dat->DS)(keep:Dat->Bool)(val:Dat->Dat):∀(xs:List Dat) (h:List Dat) (Z:DS),h.length+xs.length<=dk ->
  (∀x∈xs,∀Z,(Z=m\/∃y,Z=put y)->g x Z=al (put x))->(∀x∈xs,fc (put x)=al (keep x,put x))->(∀x∈xs,keep x=bi->fe (put x)=al (val x,put x))->(∀x∈xs,noOwn (put x)=bi)->(Z=m\/∃y,Z=put y) ->
  ∃Z',compLoop g fc fe xs h Z=al (h++(xs.filter keep).map val,Z')
 | [],h,Z,_,_,_,_,_,_=>⟨Z,by simp[compLoop]⟩
 | x::xs,h,Z,v,n,p,q,t,hd=>by
  simp at v;have z:=n x (fk ..) Z hd;have A:=p x<|fk ..;have B:=t x<|fk ..;have j:=λk (u:k.length+xs.length<=dk)=>FX put keep val xs k (put x) u (λy i=>n y<|eR _ i) (λy i=>p y<|eR _ i) (λy i=>q y<|eR _ i) (λy i=>t y<|eR _ i)<|τ ⟨x,ρ⟩;cases l:keep x with
  | false=>obtain⟨Z',e⟩:=j h (by omega);simp_all [compLoop]
  | true=>obtain⟨Z',e⟩:=j (h++[val x]) (by rw[eW];simp;omega);refine⟨Z',?_⟩;show (g x Z).bind _=_;rw[z];show (fc<|put x).bind _=_;rw[A,l];show (fe<|put x).bind _=_;rw[q x (fk ..) l];show (if h.length<dk/\noOwn (put x)=bi then _ else am)=_;rw[if_pos ⟨by omega,B⟩,e,u4,l];simp
def WE(e:EF)(Z:DS)(Q:Res->DS->Prop):Prop:=∃r Z1,e Z=al (r,Z1)/\Q r Z1
def WD(f:DF)(Z:DS)(Q:Dat->DS->Prop):Prop:=∃d Z1,f Z=al (d,Z1)/\Q d Z1
def WA(a:AF)(Z:DS)(Q:List Dat->DS->Prop):Prop:=∃ds Z1,a Z=al (ds,Z1)/\Q ds Z1
def Uc{Q:Res->DS->Prop}(h:e Z=al (r,Z1))(q:Q r Z1):WE e Z Q:=⟨r,Z1,h,q⟩
def T9{Q:Dat->DS->Prop}(h:f Z=al (d,Z1))(q:Q d Z1):WD f Z Q:=⟨d,Z1,h,q⟩
def HV{Q:Dat->DS->Prop}(h:WE e Z λr Z1=>Q r.val Z1):WD (ij e) Z Q:=by obtain⟨r,Z1,i,q⟩:=h;exact⟨_,Z1,ai i ρ,q⟩
def Q6{Q:List Dat->DS->Prop}(q:Q [] Z):WA lJ Z Q:=⟨_,_,ρ,q⟩
def R9{Q:List Dat->DS->Prop}(h:WD f Z λd Z1=>WA a Z1 λds Z2=>Q (d::ds) Z2):WA (fO f a) Z Q:=by obtain⟨d,Z1,i,ds,Z2,j,q⟩:=h;exact⟨_,Z2,af i j,q⟩
def QW {Q:Res->DS->Prop}(h:WA a Z λds Z1=>∃r,fn ds=al r/\Q r Z1):WE (cb fn a) Z Q:=by obtain⟨ds,Z1,i,r,j,q⟩:=h;exact⟨r,Z1,aO i j,q⟩
def Ny (h:f Z=al (.L ds,Z1))(i:dH ds=al ys)(j:sep.length<=16/\(ys.map (·.length)).sum+ys.length<=1048576):qZ sep f Z=al (.str<|YZ sep ys,Z1):=by delta qZ;simp[h];simp only[i];exact if_pos j
def NK (h:WE e Z λr Z1=>∃Z2,mF i r Z1=al Z2/\Q (.next Z2)):WS (gQ i e) Z Q:=by obtain⟨r,Z1,j,Z2,k,q⟩:=h;exact⟨_,nc j k,q⟩
def Mz (h:WE e Z λr Z1=>Q<|.ret r Z1):WS (lG e) Z Q:=by obtain⟨r,Z1,i,q⟩:=h;exact⟨_,Au i,q⟩
def F8{caps:List (Option Nat)}{kb j:Nat}{fi:IF}{g:GF}{fc:BF}{fe:DF}{xs:List Dat}{c0:Dat}{Q:Res->DS->Prop}(I:Nat->List Dat->DS->Prop)(t:fi Z=al (xs,Z1))(u:aV (al (kb,j)) caps Z1=Z2)(v:caps[kb]?=al (al j))(y:Z2[j]?=al (.io c0))(z:I 0 [] ((b8 caps Z2).set kb (.io c0)))(A:xs.length<=dk)
 (st:∀(k:Nat) (x:Dat),xs[k]?=al x->∀h Z,I k h Z->∃Z1,g x Z=al Z1/\WB fc Z1 λb Z2=>(b=bn->noOwn Z2=bi/\I (k+1) h Z2)/\(b=bi->WD fe Z2 λd Z3=>noOwn Z3=bi/\I (k+1) (h++[d]) Z3))
 (m:∀h Z,I xs.length h Z->∃l,Z[kb]?=al (.io l)/\Q (.O<|.L h) (Z2.set j<|.io l)):WE (dJ caps (al (kb,j)) fi g fc fe) Z Q:=by
 obtain⟨h,B,n,C⟩:=Ac I xs 0 [] _ z (by simpa using A) (λk x hx h Z i=>by
  rw[I9] at i ⊢;obtain⟨Z1,D,b,Z2,E,p,F⟩:=st k x hx h Z i;refine⟨Z1,b,Z2,D,E,?_⟩;cases b
  ·exact ι ⟨ρ,(p ρ).1,(p ρ).2⟩
  obtain⟨d,Z3,G,J,L⟩:=F ρ;exact τ ⟨d,Z3,ρ,G,J,L⟩)
 rw[I9] at n;obtain⟨l,i,q⟩:=m h B n;exact⟨_,_,Qt t u v y C i ρ,q⟩
noncomputable def Dq:Option Dat->Slot
 | some d=>.D d
 | none=>.no
structure tS (K:ft) (Hi:Hp) (os:List (Option Dat)) (σ:St):Prop where
 len:os.length=σ.length
 at_:∀(i:Nat) (d:Dat),os[i]?=al (al d)->∃v,σ[i]?=al (al v)/\Rep K Hi d v
theorem uM{i:Nat}{s:Slot}(h:(os.map Dq)[i]?=al s):(∃d,os[i]?=al (al d)/\s=.D d)\/s=.no:=by
 rw[c6] at h;cases e:os[i]? with
 | none=>rw[e] at h;exact nO h
 | some o =>
  rw[e] at h;obtain rfl:=sO h;cases o with
  | none=>exact τ ρ
  | some d=>exact ι ⟨d,ρ,ρ⟩
theorem tS.sr(D:tS K Hi os σ)(s:ag Hi H):SR K (H,Hi) (fun _=>am) (os.map Dq) σ H Hi where
 sub:=s
 keep:=fun b o e _=>e
 dB:=fun p ⟨_,z⟩=>by exact nO z
 D:=fun i d e=>by
  rcases uM e with⟨d',h,z⟩|z
  ·cases z;exact D.at_ i d h
  contradiction
 O:=fun i c e=>by rcases uM e with⟨d',h,z⟩|z<;>contradiction
 io:=fun i c e=>by rcases uM e with⟨d',h,z⟩|z<;>contradiction
 ne:=fun i j c c' p e _ _ _=>by rcases e with e|e<;>rcases uM e with⟨d',h,z⟩|z<;>contradiction
 len:=by rw[bt];exact D.len
 nw:=fun p o e=>ι e
noncomputable def iH (n:Nat)(f:List h->Option i):List h->Option i:=λds=>if ds.length=n then f ds else am
def D7{i j:Type}{n:Nat}{f:List i->Option j}{ds:List i}(h:ds.length=n):iH n f ds=f ds:=if_pos h
def cI{x h:e6}{st:Xs}{f:dn}{j:kq}{N ps:List e6}{k n:Nat}{fb:SF}{Spec:a8->Prop}(F:bz K x h st f j)(S:bK N ps (aP st))(hn:ps.length=n)
 (l:∀(cdv:cA) (A:qp) (outer:List ZO) (s:ey) (H:Hp) (E:XK),bY k (A.deeper<|Xc h (aP st) s.heap.objs.size f cdv)->gh (iE bj P w K mg base N h (aP st) f cdv A outer s H E).jA (fN st) fb)
 (i:Spec (iH n<|jj N.length fb)):∃fn,br P w K mg base bj (k+1) f j ps (aI K fn)/\Spec fn:=by
 refine⟨_,JO F S ?_ l ?_,i⟩;simp_all [iH];simp[iH]
def r9{x h:e6}{st:Xs}{f:dn}{l:kq}{N ps:List e6}{k n j:Nat}{fb:SF}{Spec:cz->Prop}(F:bz K x h st f l)(S:bK N ps (aP st))(hn:ps.length=n+1)
 (m:∀(cdv:cA) (A:qp) (outer:List ZO) (s:ey) (H:Hp) (E:XK),bY k (A.deeper<|Xc h (aP st) s.heap.objs.size f cdv)->gh (iE bj P w K mg base N h (aP st) f cdv A outer s H E).jA (fN st) fb)
 (i:Spec (λc=>iH n<|og N.length j fb c)):∃fn,br P w K mg base bj (k+1) f l ps (dy K j fn)/\Spec fn:=by
 refine⟨_,QM F S ?_ m ?_,i⟩;simp_all [iH];simp[iH]
def zi {P:Res->Prop}(i:ds.length=m)(h:WS s (iL n ds) λo=>∃r Z,o=.ret r Z/\P r):∃r,iH m (jj n s) ds=al r/\P r:=by rw[D7 i];exact (λh=>by obtain⟨o,e,r,Z,rfl,p⟩:=h;exact⟨r,Fi e,p⟩) h
def uX {P:Res->Dat->Prop}(k:ds.length=m)(h:WS s (jN n j c0 ds) λo=>∃r Z i,o=.ret r Z/\Z[j]?=al (.io i)/\P r i):∃r i,iH m (og n j s c0) ds=al (r,i)/\P r i:=by rw[D7 k];exact (λh=>by obtain⟨o,e,r,Z,i,rfl,h,p⟩:=h;exact⟨r,i,xI e h,p⟩) h
def dz (j:ds.length=m)(h:WS s (iL n ds) λo=>∃Z,o=.ret r Z):iH m (jj n s) ds=al r:=by obtain⟨i,e,z⟩:=zi j (h.mono λo ⟨Z,e⟩=>⟨r,Z,e,ρ⟩);rw[e,z]
def QE{caps:List (Option Nat)}{fi:IF}{g:GF}{fc:BF}{fe:DF}{xs:List Dat}(put:Dat->DS)(keep:Dat->Bool)(val:Dat->Dat)(h:fi Z=al (xs,Z1))(i:aV am caps Z1=Z2)(j:xs.length<=dk)
 (k:∀x∈xs,∀Z,(Z=b8 caps Z2\/∃y,Z=put y)->g x Z=al (put x))(l:∀x∈xs,fc (put x)=al (keep x,put x))(m:∀x∈xs,keep x=bi->fe (put x)=al (val x,put x))(n:∀x∈xs,noOwn (put x)=bi) :
  dJ caps am fi g fc fe Z=al (.O<|.L<|(xs.filter keep).map val,Z2):=by
 obtain⟨Z',e⟩:=FX put keep val xs [] (b8 caps Z2) (by simpa using j) k l m n<|ι ρ;exact D0 h i e
def Kc (h:f Z=al (.str x,Z1))(hx:x.cps.all (·<128)=bi):alt (jI f) (jY f) Z=al (x.cps.toList.map λc=>.str ⟨#[c]⟩,Z1):=by refine zK ?_<|(λh hx=>by delta jY;rw[h];exact if_pos hx) h hx;delta jI;rw[h];rfl
def da(h:f Z=al (.L ds,Z1)):alt (jI f) (jY f) Z=al (ds,Z1):=by apply gB;delta jI;rw[h];rfl
theorem vU (f):∀cs:List h,j4 (cs.map λc=>.bl<|f c)=al (cs.map f)
 | []=>rfl
 | c::cs=>by simp only[iW,j4,vU f cs];rfl
end
def km (h:b=a):∃Z',Out.ret (.D<|.bl b) Z=.ret (.D<|.bl a) Z':=⟨Z,by rw[h]⟩
def qz (h:a Z=al ([.int n],Z1))(b:-(2 ^ 62)<=n/\n<2 ^ 62):o6 a Z=al (cN 0 n,Z1):=by delta o6;rw[h];exact if_pos b
structure Ob where
 l:Int
 b:Int
 r:Int
 t:Int
deriving DecidableEq
def Ob.ok(x:Ob):Prop:=x.l<x.r/\x.b<x.t
def Ob.fV(x:Ob):Int:=(x.r-x.l)*(x.t-x.b)
def Apart(x y:Ob):Prop:=x.r<=y.l\/y.r<=x.l\/x.t<=y.b\/y.t<=x.b
noncomputable def qK(i j:Int):Int:=if j<i then j else i
noncomputable def imax(i j:Int):Int:=if j>i then j else i
def Apart.symm (h:Apart x y):Apart y x:=by grind [Apart]
section
variable{α:Type}[DecidableEq α]
noncomputable abbrev Uj(α):=List<|α×Ob
end
noncomputable def sm:Nat->(Nat->Nat)->Nat
 | 0,_=>0
 | n+1,f=>sm n f+f n
theorem Hh(f g):∀n,sm n (λi=>f i+g i)=sm n f+sm n g
 | 0=>rfl
 | n+1=>by show sm n (λi=>f i+g i)+(f n+g n)=_;rw[Hh f g n];show _=(sm n f+f n)+(sm n g+g n);lia
theorem yI:∀{n},(∀i,i<n->f i<=g i)->sm n f<=sm n g
 | 0,_=>fj _
 | n+1,h=>acn (yI λi hi=>h i (by lia))<|h n ⋯
theorem yo:∀{n},(∀i,i<n->f i<=g i)->∀k,k<n->f k<g k->sm n f<sm n g
 | 0,_,k,a,_=>by lia
 | n+1,h,k,a,hl=>by
  show sm n f+f n<sm n g+g n;by_cases e:k=n
  ·subst e;have:=yI (n:=k) λi b=>h i (by lia);lia
  have:=yo (n:=n) (λi b=>h i (by lia)) k (by lia) hl;have:=h n ⋯;lia
theorem xC(c):∀n,sm n (λ_=>c)=n*c
 | 0=>by simp[sm]
 | n+1=>by show sm n _+c=_;simp only[xC c n,ZW]
def Cq:∀n,sm n (λ_=>0)=0:=λn=>by rw[xC];simp
theorem Co(a b c)(h:a<=b):∀n,b<=n->sm n (λi=>if a<=i/\i<b then c else 0)=(b-a)*c:=by
 have f:∀n,n<=a->sm n (λi=>if a<=i/\i<b then c else 0)=0:=λn=>by
  induction n with
  | zero=>intro _;rfl
  | succ n d=>intro g;show sm n _+(if a<=n/\n<b then c else 0)=0;rw[d (by omega),if_neg (by omega)]
 have mid:∀n,a<=n->n<=b->sm n (λi=>if a<=i/\i<b then c else 0)=(n-a)*c:=λn=>by
  induction n with
  | zero=>simp[sm]
  | succ n d =>
   intro h1 h2;show sm n _+(if a<=n/\n<b then c else 0)=_;by_cases e:a=n+1
   ·rw[f n (by omega),if_neg (by omega),e];simp
   rw[d (by lia) (by lia),if_pos (by lia),show n+1-a=(n-a)+1 by lia,ZW]
 intro n;induction n with
 | zero=>intro g;simp_all
 | succ n d=>intro g;by_cases e:b=n+1;simp_all;show sm n _+(if a<=n/\n<b then c else 0)=_;rw[d (by lia),if_neg (by lia),acT]
def js(o:Ob)(x y:Nat):Bool:=bd (o.l<=(x:Int))&&bd ((x:Int)<o.r)&&bd (o.b<=(y:Int))&&bd ((y:Int)<o.t)
theorem rB{o:Ob}{x y:Nat}:js o x y=bi ↔ o.l<=(x:Int)/\(x:Int)<o.r/\o.b<=(y:Int)/\(y:Int)<o.t:=by delta js;simp;constructor;simp_all;simp_all
def kg(os:List Ob)(x y:Nat):Nat:=os.countP λo=>js o x y
def ig(W H:Nat)(f:Nat->Nat->Nat):Nat:=sm W λx=>sm H λy=>f x y
def M4(W H)(f g):ig W H (λx y=>f x y+g x y)=ig W H f+ig W H g:=by simp[ig,Hh]
def J7{W H:Nat}{o:Ob}(h1:0<=o.l)(h2:o.l<o.r)(h3:o.r<=W)(h4:0<=o.b)(h5:o.b<o.t)(h6:o.t<=H):(ig W H (λx y=>if js o x y=bi then 1 else 0):Int)=o.fV:=by
 have e:∀x:Nat,sm H (λy=>if js o x y=bi then 1 else 0)=if o.l.toNat<=x/\x<o.r.toNat then o.t.toNat-o.b.toNat else 0:=λx=>by
  by_cases hx:o.l.toNat<=x/\x<o.r.toNat
  ·rw[if_pos hx];have a:(λy=>if js o x y=bi then 1 else 0)=λy=>if o.b.toNat<=y/\y<o.t.toNat then 1 else 0:=by simp_all [rB]
   rw[a,Co _ _ _ (by lia) H (by lia),Nat.mul_one]
  rw[if_neg hx];have a:(λy=>if js o x y=bi then 1 else 0)=λ_=>0:=by funext y;rw[if_neg (λz=>hx (by have:=rB.1 z;omega))]
  rw[a,Cq]
 dsimp only[ig];rw[show (λx=>sm H<|λy=>if js o x y=bi then 1 else 0)=λx=>if o.l.toNat<=x/\x<o.r.toNat then o.t.toNat-o.b.toNat else 0 from funext e,Co _ _ _ (by lia) W (by lia)];simp;congr 1<;>lia
structure Within (W H:Nat) (o:Ob):Prop where
 l:0<=o.l
 w:o.l<o.r
 r:o.r<=W
 b:0<=o.b
 h:o.b<o.t
 t:o.t<=H
theorem HG:∀{os:List Ob},(∀o∈os,Within W H o)->(ig W H (kg os):Int)=(os.map Ob.fV).sum
 | [],_=>by have:kg []=λ_ _=>0:=ρ;simp_all [ig,Cq]
 | o::os,h=>by
  have e:kg (o::os)=λx y=>(if js o x y=bi then 1 else 0)+kg os x y:=by funext x y;unfold kg;simp[me];lia
  have a:=h o (by simp);rw[e,M4,Int.natCast_add,J7 a.l a.w a.r a.b a.h a.t,HG λp c=>h p (by simp[c])];simp
theorem Ca{os:List Ob}(ap:os.Pairwise Apart)(x y:Nat):kg os x y<=1:=by
 delta kg;induction os with
 | nil=>simp
 | cons o os b =>
  rw[tj] at ap;rw[me];by_cases h:js o x y=bi
  ·rw[if_pos h];have:os.countP (λo=>js o x y)=0:=by rw[Ts];intro p c d;have a:=ap.1 p c;have:=rB.1 h;have:=rB.1 d;unfold Apart at a;omega
   lia
  rw[if_neg h];exact b ap.2
def filled{W H:Nat}{os:List Ob}(a:∀o∈os,Within W H o)(ap:os.Pairwise Apart)(ar:(os.map Ob.fV).sum=(W:Int)*H){x y:Int}(hx:0<=x)(hx':x<W)(hy:0<=y)(hy':y<H) :
  ∃o∈os,o.l<=x/\x<o.r/\o.b<=y/\y<o.t:=by
 refine XJ λno=>?_;have e0:kg os x.toNat y.toNat=0:=by grind [kg,rB]
 have g:=HG a;have lt:ig W H (kg os)<ig W H (λ_ _=>1):=by refine yo (λi _=>yI λj _=>Ca ap i j) x.toNat (by lia)<|yo (λj _=>Ca ap _ j) y.toNat (by lia) ?_;simp_all
 have one:ig W H (λ_ _=>1)=W*H:=by simp[ig,xC]
 lia
def dc(o:Ob):List (Int×Int):=[(o.l,o.b),(o.l,o.t),(o.r,o.b),(o.r,o.t)]
def dQ(os:List Ob):List (Int×Int):=os.flatMap dc
structure Cuts (o:Ob) (os:List Ob):Prop where
 aK:∀x∈os,o.l<=x.l/\x.l<x.r/\x.r<=o.r/\o.b<=x.b/\x.b<x.t/\x.t<=o.t
 ap:os.Pairwise Apart
 ar:(os.map Ob.fV).sum=o.fV
theorem Cuts.one{o:Ob}(h:o.ok):Cuts o [o]:=⟨by simp_all [Ob.ok],aaP _ _,⋯⟩
def xa{a:Type}{os:List a}{j:Nat}{x:a}(e:os[j]?=al x):os=os.take j++x::os.drop (j+1):=by obtain⟨h,e⟩:=cm.1 e;simp[<-e]
def Cuts.LL{o x:Ob}{os d:List Ob}{j:Nat}(h:Cuts o os)(e:os[j]?=al x)(h':Cuts x d):Cuts o (os.take j++d++os.drop (j+1)):=by
 have m:=xa e;generalize os.take j=A at *;generalize os.drop (j+1)=B at *;subst m;obtain⟨g,k,n⟩:=h;obtain⟨i,p,q⟩:=h';rw[Yo,tj] at k;obtain⟨r,⟨l,s⟩,f⟩:=k;refine⟨λy b=>?_,?_,?_⟩
 ·rcases ee.1 b with b|b
  ·rcases ee.1 b with b|b
   ·exact g y (by simp[b])
   have:=g x (by simp);have:=i y b;omega
  exact g y (by simp[b])
 ·rw[Yo,Yo];refine⟨⟨r,p,λy b z c=>?_⟩,s,λy b z c=>?_⟩
  ·have a:=f y b x (by simp);have:=i z c;unfold Apart at *;omega
  rcases ee.1 b with b|b
  ·exact f y b z (by simp[c])
  have a:=l z c;have:=i y b;unfold Apart at *;omega
 simp only[gf,gf,aah,aah,q,<-n,gf,iW,aah,YR];lia
def Cuts.up (h:o.ok)(h1:o.b<a)(h2:a<o.t):Cuts o [⟨o.l,o.b,o.r,a⟩,⟨o.l,a,o.r,o.t⟩]:=by
 delta Ob.ok at h;refine⟨λx hx=>?_,?_,?_⟩
 ·simp at hx;rcases hx with rfl|rfl<;>dsimp only<;>lia
 ·simp[Apart]
 simp[Ob.fV];grind
def Cuts.on (h:o.ok)(h1:o.l<a)(h2:a<o.r):Cuts o [⟨o.l,o.b,a,o.t⟩,⟨a,o.b,o.r,o.t⟩]:=by
 delta Ob.ok at h;refine⟨λx hx=>?_,?_,?_⟩
 ·simp at hx;rcases hx with rfl|rfl<;>dsimp only<;>lia
 ·simp[Apart]
 simp[Ob.fV];grind
theorem Cuts.Mn:Cuts ⟨0,0,300,300⟩ [⟨0,0,200,100⟩,⟨200,0,300,200⟩,⟨100,200,300,300⟩,⟨0,100,100,300⟩,⟨100,100,200,200⟩]:=by refine⟨by decide,?_,by decide⟩;delta Apart;decide
theorem TB{l a:List Int}(p:l.Perm a):l.sum=a.sum:=by
 induction p with
 | nil=>rfl
 | cons x _ ih=>simp_all
 | swap x y l=>simp only[YR];lia
 | trans _ _ i1 i2=>simp_all
theorem Cuts.perm{o:Ob}{os b:List Ob}(h:Cuts o os)(p:b.Perm os):Cuts o b :=
 ⟨λx hx=>h.aK x<|p.mem_iff.1 hx,p.symm.pairwise h.ap λ{x y} a=>by grind [Apart],by rw[TB (p.map Ob.fV)];exact h.ar⟩
def ae(o:Ob):Ob:=⟨-o.t,o.l,-o.b,o.r⟩
noncomputable def aa:Nat->Ob->Ob
 | 0,o=>o
 | k+1,o=>ae<|aa k o
structure aB (bx:Ob) (os:List Ob):Prop where
 aK:∀o∈os,bx.l<=o.l/\o.l<o.r/\o.r<=bx.r/\bx.b<=o.b/\o.b<o.t/\o.t<=bx.t
 ap:∀x∈os,∀y∈os,x=y\/Apart x y
 hit:∀p q,bx.l<=p->p<bx.r->bx.b<=q->q<bx.t->∃o∈os,o.l<=p/\p<o.r/\o.b<=q/\q<o.t
 four:∀x∈os,∀n∈os,∀m∈os,∀z∈os,¬(n.r=x.r/\n.b=x.t/\m.l=x.r/\m.t=x.t/\z.l=x.r/\z.b=x.t)
def wN(a:Ob):Ob:=⟨a.l,a.t,a.r,a.t+1⟩
def wE(a:Ob):Ob:=⟨a.r,a.b,a.r+1,a.t⟩
def wS(a:Ob):Ob:=⟨a.l,a.b-1,a.r,a.b⟩
def wW(a:Ob):Ob:=⟨a.l-1,a.b,a.l,a.t⟩
noncomputable def walls(a:Ob):List Ob:=[wN a,wE a,wS a,wW a]
def Qp (h:ae x=ae y):x=y:=by
 cases x;simp_all [ae]
theorem i9:∀(k:Nat) {x y:Ob},aa k x=aa k y->x=y
 | 0,_,_,h=>h
 | k+1,_,_,h=>i9 k<|Qp h
def aB.turn{j:Ob}{os:List Ob}(T:aB j os):aB (ae j) (os.map ae) where
 aK:=λo f=>by obtain⟨x,hx,rfl⟩:=bg.1 f;have:=T.aK x hx;simp_all [ae]
 ap:=λa g b i=>by
  obtain⟨x,hx,rfl⟩:=bg.1 g;obtain⟨y,r,rfl⟩:=bg.1 i;rcases T.ap x hx y r with e|e
  ·exact ι (by rw[e])
  right;unfold Apart at *;simp only[ae];lia
 hit:=λp q s t k l=>by simp[ae] at s t k l;obtain⟨o,f,k1,k2,k3,k4⟩:=T.hit q (-p-1) k l (by lia) (by lia);refine⟨ae o,bg.2 ⟨o,f,ρ⟩,?_⟩;simp[ae];lia
 four:=λa g b i c u d hd h=>by obtain⟨x,hx,rfl⟩:=bg.1 g;obtain⟨n,v,rfl⟩:=bg.1 i;obtain⟨m,w,rfl⟩:=bg.1 u;obtain⟨z,A,rfl⟩:=bg.1 hd;simp[ae] at h;exact T.four m w x hx z A n v (by lia)
def Up(x y:Ob):Prop:=y.b=x.t/\x.l<y.r/\y.l<x.r
instance {x y:Ob}:Decidable (Up x y):=by unfold Up;infer_instance
section
variable{bx:Ob}{os:List Ob}{x y z n m m':Ob}{α:Type}
def kX(a:m∈walls bx)(i:bx.l<=x.l/\x.l<x.r/\x.r<=bx.r/\bx.b<=x.b/\x.b<x.t/\x.t<=bx.t)(u:Up x m):m=wN bx/\x.t=bx.t:=by
 obtain⟨d,i2,e,i4,i5,i6⟩:=i;obtain⟨c,f,g⟩:=u;simp[walls] at a;rcases a with rfl|rfl|rfl|rfl
 ·exact⟨ρ,c.symm⟩
 ·exact absurd g<|Zg.2 e
 ·exact absurd (show bx.b-1=x.t from c) (by lia)
 exact absurd f<|Zg.2 d
def nB(a:m∈walls bx)(i:bx.l<=x.l/\x.l<x.r/\x.r<=bx.r/\bx.b<=x.b/\x.b<x.t/\x.t<=bx.t)(u:Up (ae x) (ae m)):m=wE bx/\x.r=bx.r:=by
 obtain⟨i1,i2,i3,d,i5,e⟩:=i;obtain⟨c,f,g⟩:=u;simp[walls] at a;rcases a with rfl|rfl|rfl|rfl
 ·exact absurd (YJ.1<|f)<|Zg.2 e
 ·exact⟨ρ,c.symm⟩
 ·exact absurd (YJ.1<|g)<|Zg.2 d
 exact absurd (show bx.l-1=x.r from c) (by lia)
def aB.cover(T:aB bx os)(hx:x∈os)(c:x.t<bx.t)(h1:x.l<=p)(h2:p<x.r):∃y∈os,Up x y/\y.l<=p/\p<y.r:=by
 have ix:=T.aK x hx;obtain⟨y,b,d,e,k3,k4⟩:=T.hit p x.t (by omega) (by omega) (by lia) c;refine⟨y,b,?_,d,e⟩;delta Up;rcases T.ap x hx y b with rfl|a
 ·lia
 delta Apart at a;lia
def aB.next(T:aB bx os)(hx:x∈os)(e:x.t<bx.t)(c:y∈os)(u:Up x y)(h:y.r<x.r):∃z∈os,Up x z/\z.l=y.r:=by
 delta Up at u;obtain⟨z,b,d,k1,k2⟩:=T.cover hx e (by lia) h;refine⟨z,b,d,?_⟩;have iy:=T.aK y c;have iz:=T.aK z b;delta Up at d;rcases T.ap y c z b with rfl|a
 ·lia
 delta Apart at a;omega
def aB.prev(T:aB bx os)(hx:x∈os)(e:x.t<bx.t)(c:y∈os)(u:Up x y)(h:x.l<y.l):∃z∈os,Up x z/\z.r=y.l:=by
 unfold Up at u;obtain⟨z,b,d,k1,k2⟩:=T.cover hx e (p:=y.l-1) (by lia) (by lia);refine⟨z,b,d,?_⟩;have iy:=T.aK y c;have iz:=T.aK z b;unfold Up at d;rcases T.ap y c z b with rfl|a
 ·lia
 grind [Apart]
def aB.tee(T:aB bx os)(hx:x∈os)(b:n∈os)(c:m∈os)(un:Up x n)(en:x.r<=n.r)(e:Up (ae x) (ae m))(em:x.t<=m.t):(x.r<n.r/\m.t=x.t)\/(n.r=x.r/\x.t<m.t):=by
 have jn:=T.aK n b;have jm:=T.aK m c;delta Up at un e;simp only[ae] at e;have f:Apart n m:=by
  rcases T.ap n b m c with rfl|a
  ·omega
  exact a
 delta Apart at f;by_cases g:n.r=x.r
 ·by_cases h:m.t=x.t
  ·exfalso;obtain⟨z,d,k1,k2,k3,k4⟩:=T.hit x.r x.t ⋯ (by lia) (by lia) (by lia);have i:Apart n z:=by
    rcases T.ap n b z d with rfl|a
    ·lia
    exact a
   have j:Apart m z:=by
    rcases T.ap m c z d with rfl|a
    ·lia
    exact a
   delta Apart at i j;exact T.four x hx n b m c z d ⟨g,un.1,by lia,h,by lia,by lia⟩
  lia
 lia
def nY(x n m:Ob):Prop:=(Up x n/\Up x m/\n.r=m.l)\/(Up x n/\x.r<=n.r/\Up (ae x) (ae m)/\x.t<=m.t)
def bQ(x n m:Ob):Prop:=∃k,k<4/\nY (aa k x) (aa k n) (aa k m)
def jh(o):ae (ae<|ae<|ae o)=o:=by simp[ae]
theorem bQ.up (h:bQ (ae x) (ae n) (ae m)):bQ x n m:=by
 obtain⟨k,hk,h⟩:=h;have e:∀(k:Nat) (o:Ob),aa k (ae o)=aa (k+1) o:=λk o=>by
  induction k with
  | zero=>rfl
  | succ k ih=>simp_all [aa]
 simp[e] at h;by_cases a:k=3
 ·subst a;refine⟨0,⋯,?_⟩;simp_all [aa,jh]
 exact⟨k+1,by lia,h⟩
def aB.Lp(T:aB bx os)(hx:x∈os)(h:nY x n m)(c:n∈os\/n∈walls bx)(hm:m∈os\/m∈walls bx):(n∈os->bQ n m x)/\(m∈os->bQ m x n):=by
 have i:=T.aK x hx;have no:∀{o:Ob},o∈os->o∈walls bx->False:=λ{o} h h'=>by have:=T.aK o h;simp[walls] at h';rcases h' with rfl|rfl|rfl|rfl<;>dsimp only[wN,wE,wS,wW] at this<;>omega
 rcases h with⟨un,d,e⟩|⟨un,p,d,em⟩
 ·have f:n∈os:=c.resolve_right λh=>by obtain⟨rfl,_⟩:=kX h i un;have:=d.2.2;dsimp only[wN] at e;omega
  have g:m∈os:=hm.resolve_right λh=>by obtain⟨rfl,_⟩:=kX h i d;have:=un.2.1;dsimp only[wN] at e;omega
  have q:=T.aK n f;have r:=T.aK m g;obtain⟨s,u,v⟩:=un;obtain⟨j,k,l⟩:=d;refine⟨λ_=>⟨1,⋯,τ ?_⟩,λ_=>⟨2,⋯,τ ?_⟩⟩
  ·dsimp only[aa,ae,Up];lia
  dsimp only[aa,ae,Up];lia
 rcases c with c|c<;>rcases hm with hm|hm
 ·have q:=T.aK n c;have r:=T.aK m hm;have t:=T.tee hx c hm un p d em;obtain⟨s,u,v⟩:=un;obtain⟨j,k,l⟩:=d;dsimp only[ae] at j k l;rcases t with⟨a,b⟩|⟨a,b⟩
  ·refine⟨λ_=>⟨2,⋯,ι ?_⟩,λ_=>⟨3,⋯,τ ?_⟩⟩
   ·dsimp only[aa,ae,Up];lia
   dsimp only[aa,ae,Up];lia
  refine⟨λ_=>⟨1,⋯,τ ?_⟩,λ_=>⟨3,⋯,ι ?_⟩⟩
  ·dsimp only[aa,ae,Up];lia
  dsimp only[aa,ae,Up];lia
 ·have q:=T.aK n c;obtain⟨rfl,w⟩:=nB hm i d;obtain⟨s,u,v⟩:=un;refine⟨λ_=>⟨1,⋯,τ ?_⟩,λg=>(no g hm).elim⟩;dsimp only[aa,ae,Up,wE] at em ⊢;grind
 ·have r:=T.aK m hm;obtain⟨rfl,w⟩:=kX c i un;obtain⟨j,k,l⟩:=d;refine⟨λf=>(no f c).elim,λ_=>⟨3,⋯,τ ?_⟩⟩;dsimp only[aa,ae,Up,wN] at p j k l ⊢;grind
 exact⟨λf=>(no f c).elim,λg=>(no g hm).elim⟩
def mC (h1:x.l=y.l)(h2:x.b=y.b)(h3:x.r=y.r)(h4:x.t=y.t):x=y:=by
 cases x;simp_all
def Tc (h:o∈walls bx):ae o∈walls (ae bx):=by
 have h:o=wN bx\/o=wE bx\/o=wS bx\/o=wW bx:=by simpa[walls] using h
 rcases h with rfl|rfl|rfl|rfl
 ·rw[show ae (wN bx)=wW (ae bx) from mC (by simp only[ae,wN,wW]<;>lia) (by rfl) (by rfl) (by rfl)];simp[walls]
 simp[ae,wE,wN,walls]
 ·rw[show ae (wS bx)=wE (ae bx) from mC (by rfl) (by rfl) (by simp only[ae,wS,wE]<;>lia) (by rfl)];simp[walls]
 simp[ae,wW,wS,walls]
theorem aB.turns (T:aB bx os):∀k,aB (aa k bx) (os.map<|aa k)
 | 0=>by show aB bx (os.map λo=>o);rwa[ZS]
 | k+1=>by have:=(T.turns k).turn;rwa[gk] at this
theorem vT (h:o∈walls bx):∀k,aa k o∈walls (aa k bx)
 | 0=>h
 | k+1=>Tc<|vT h k
theorem bQ.ups:∀(k:Nat) {x n m:Ob},bQ (aa k x) (aa k n) (aa k m)->bQ x n m
 | 0,_,_,_,h=>h
 | k+1,_,_,_,h=>bQ.ups k<|bQ.up h
def aB.close(T:aB bx os)(hx:x∈os)(h:bQ x n m)(d:n∈os\/n∈walls bx)(e:m∈os\/m∈walls bx):(n∈os->bQ n m x)/\(m∈os->bQ m x n):=by obtain⟨k,hk,h⟩:=h;have c:∀{o:Ob},o∈os->aa k o∈os.map (aa k):=λ{o} h=>bg.2 ⟨o,h,ρ⟩;have up:∀{o:Ob},(o∈os\/o∈walls bx)->(aa k o∈os.map (aa k)\/aa k o∈walls (aa k bx)):=λ{o} h=>h.imp c<|λh=>vT h k;obtain⟨a,b⟩:=(T.turns k).Lp (c hx) h (up d) (up e);exact⟨λz=>bQ.ups k<|a<|c z,λz=>bQ.ups k<|b<|c z⟩
def Nb(bx:Ob)(os:List Ob)(o:Ob):Prop:=o∈os\/o∈walls bx
def Nb.ok(T:aB bx os)(a:bx.ok)(h:Nb bx os n):n.l<n.r/\n.b<n.t:=by
 delta Ob.ok at a;rcases h with h|h
 ·have:=T.aK n h;lia
 have h:n=wN bx\/n=wE bx\/n=wS bx\/n=wW bx:=by simpa[walls] using h
 rcases h with rfl|rfl|rfl|rfl<;>simp only[wN,wE,wS,wW]<;>lia
def Nb.ap(T:aB bx os)(a:bx.ok)(h:Nb bx os n)(h':Nb bx os m):n=m\/Apart n m:=by
 have wl:∀{o:Ob},o∈walls bx->o=wN bx\/o=wE bx\/o=wS bx\/o=wW bx:=λ{o} h=>by simpa[walls] using h
 delta Apart;delta Ob.ok at a;rcases h with h|h<;>rcases h' with h'|h'
 ·exact T.ap n h m h'
 ·have i:=T.aK n h;right;rcases wl h' with rfl|rfl|rfl|rfl<;>simp only[wN,wE,wS,wW]<;>omega
 ·have i:=T.aK m h';right;rcases wl h with rfl|rfl|rfl|rfl<;>simp only[wN,wE,wS,wW]<;>omega
 rcases wl h with rfl|rfl|rfl|rfl<;>rcases wl h' with rfl|rfl|rfl|rfl<;>first|exact ι ρ|(right;simp only[wN,wE,wS,wW];omega)
def IE(hx:x.l<x.r/\x.b<x.t)(om:m.l<m.r/\m.b<m.t)(om':m'.l<m'.r/\m'.b<m'.t)(ap:m=m'\/Apart m m')(h:nY x n m)(h':nY x n m'):m=m':=by
 rcases ap with e|a
 ·exact e
 delta nY Up Apart at *;simp[ae] at *;omega
def F1 (hk:k<4)(hj:j<4)(ox:x.l<x.r/\x.b<x.t)(on:n.l<n.r/\n.b<n.t)(h:Up (aa k x) (aa k n))(h':Up (aa j x) (aa j n)):k=j:=by
 have a:k=0\/k=1\/k=2\/k=3:=by lia
 have c:j=0\/j=1\/j=2\/j=3:=by lia
 delta Up at *;rcases a with rfl|rfl|rfl|rfl<;>rcases c with rfl|rfl|rfl|rfl<;>first|rfl|(exfalso;simp only[aa,ae] at *;lia)
theorem ER(k)(h:n=m\/Apart n m):aa k n=aa k m\/Apart (aa k n) (aa k m):=by
 rcases h with h|h
 ·exact ι (by rw[h])
 right;induction k with
 | zero=>exact h
 | succ k ih=>show Apart (ae<|aa k n) (ae<|aa k m);unfold Apart at *;simp only[ae];lia
theorem kz(k)(h:n.l<n.r/\n.b<n.t):(aa k n).l<(aa k n).r/\(aa k n).b<(aa k n).t:=by
 induction k with
 | zero=>exact h
 | succ k ih=>simp_all [ae,aa]
def nY.up (h:nY x n m):Up x n:=by rcases h with⟨h,_⟩|⟨h,_⟩<;>exact h
def aB.KI(T:aB bx os)(a:bx.ok)(hx:x∈os)(f:Nb bx os n)(d:Nb bx os m)(c:Nb bx os m')(h:bQ x n m)(h':bQ x n m'):m=m':=by obtain⟨k,g,h⟩:=h;obtain⟨j,i,h'⟩:=h';have e:=Nb.ok T a<|ι hx;have:=F1 g i e (Nb.ok T a f) h.up h'.up;subst this;exact i9 k<|IE (kz k e) (kz k<|Nb.ok T a d) (kz k<|Nb.ok T a c) (ER k<|Nb.ap T a d c) h h'
def bI(N:List Ob)(x:Ob)(k:Nat):List Ob:=(N.filter λy=>bd<|Up (aa k x)<|aa k y).mergeSort λa b=>bd<|(aa k a).l<=(aa k b).l
def bq(N:List Ob)(x:Ob):List Ob:=bI N x 0++bI N x 1++bI N x 2++bI N x 3
def gK:y∈bI N x k ↔ y∈N/\Up (aa k x) (aa k y):=by simp[bI]
def Oq{N:List Ob}{x:Ob}{k:Nat}{i j:Nat}{a b:Ob}(hij:i<=j)(f:(bI N x k)[i]?=al a)(g:(bI N x k)[j]?=al b):(aa k a).l<=(aa k b).l:=by by_cases e:i=j;simp_all;have:=zb (le:=λa b=>bd<|(aa k a).l<=(aa k b).l) (by lia) (by lia) (N.filter λy=>bd<|Up (aa k x)<|aa k y);obtain⟨h,c⟩:=cm.1 f;obtain⟨o,d⟩:=cm.1 g;have:=oy.1 this i j h o (by lia);rw[decide_eq_true_eq] at this;rwa[<-c,<-d]
def aB.Kx(T:aB bx os)(K:bx.ok)(hx:x∈os)(w:∀y,y∈l ↔ Nb bx os y/\Up x y)(nd:l.Nodup)(A:∀(i j:Nat) a b,i<=j->l[i]?=al a->l[j]?=al b->a.l<=b.l) :
  l≠[]/\(∀(i:Nat) a b,l[i]?=al a->l[i+1]?=al b->a.r=b.l)/\(∀a,l[0]?=al a->a.l<=x.l)/\(∀a,l[l.length-1]?=al a->x.r<=a.r):=by
 have ix:=T.aK x hx;have wl:∀{o:Ob},o∈walls bx->o=wN bx\/o=wE bx\/o=wS bx\/o=wW bx:=λ{o} h=>by simpa[walls] using h
 by_cases C:x.t<bx.t
 ·have room:∀y∈l,y∈os/\Up x y:=λy B=>by
   obtain⟨f,d⟩:=(w y).1 B;refine⟨?_,d⟩;rcases f with h|h
   ·exact h
   exfalso;delta Up at d;rcases wl h with rfl|rfl|rfl|rfl<;>simp only[wN,wE,wS,wW] at d<;>omega
  have at_:∀{z:Ob},z∈os->Up x z->∃j,l[j]?=al z:=λ{z} k s=>by obtain⟨j,g,e⟩:=wy<|(w z).2 ⟨ι k,s⟩;exact⟨j,by rw[cn g,e]⟩
  refine⟨?_,?_,?_,?_⟩
  ·obtain⟨y,B,L,_⟩:=T.cover hx C (p:=x.l) (by lia) (by omega);exact λz=>by have:=(w y).2 ⟨ι B,L⟩;rw[z] at this;cases this
  ·intro i a b c u;obtain⟨q,v⟩:=room a<|eH c;obtain⟨F,G⟩:=room b<|eH u;have M:=T.aK a q;have jb:=T.aK b F;have H:a≠b:=λe=>by subst e;have f:=(cm.1 c);have d:=(cm.1 u);obtain⟨f,D⟩:=f;obtain⟨d,E⟩:=d;have:=oy.1 nd i (i+1) f d (by lia);simp only[D,E] at this;exact this ρ
   have sab:=A i (i+1) a b (by lia) c u;have ap:=(T.ap a q b F).resolve_left H;have hle:a.r<=b.l:=by unfold Apart at ap;delta Up at v G;omega
   obtain⟨z,k,s,I⟩:=T.next hx C q v (by unfold Up at G;omega);obtain⟨j,g⟩:=at_ k s;by_cases J:j<=i
   ·have:=A j i z a J g c;omega
   have:=A (i+1) j b z (by lia) u g;lia
  ·intro a c;obtain⟨q,v⟩:=room a<|eH c;refine XJ λh=>?_;obtain⟨z,k,s,I⟩:=T.prev hx C q v (by lia);obtain⟨j,g⟩:=at_ k s;have:=A 0 j a z (by lia) c g;have jz:=T.aK z k;omega
  intro a c;obtain⟨q,v⟩:=room a<|eH c;refine XJ λh=>?_;obtain⟨z,k,s,I⟩:=T.next hx C q v (by lia);obtain⟨j,g⟩:=at_ k s;have hjl:=(cm.1 g).1;have:=A j (l.length-1) z a (by omega) g c;have M:=T.aK a q;omega
 have only:∀y∈l,y=wN bx:=λy B=>by
  obtain⟨f,d⟩:=(w y).1 B;delta Up at d;rcases f with h|h
  ·have:=T.aK y h;omega
  rcases wl h with rfl|rfl|rfl|rfl
  ·rfl
  all_goals exfalso;simp only[wE,wS,wW] at d;lia
 have there:wN bx∈l:=(w _).2 ⟨τ (by simp[walls]),by delta Up wN;dsimp only;omega⟩;refine⟨λz=>(by rw[z] at there;cases there),?_,?_,?_⟩
 ·intro i a b c u;exfalso;have N:=only a<|eH c;have O:=only b<|eH u;obtain⟨f,D⟩:=cm.1 c;obtain⟨d,E⟩:=cm.1 u;have:=oy.1 nd i (i+1) f d (by lia);simp only[D,E,N,O] at this;exact this ρ
 ·intro a c;rw[only a (eH c)];simp only[wN];omega
 intro a c;rw[only a (eH c)];simp only[wN];omega
theorem rT(k):Nb (aa k bx) (os.map<|aa k) (aa k y) ↔ Nb bx os y:=by
 have wl:∀k y,aa k y∈walls (aa k bx)->y∈walls bx:=λk=>by
  induction k with
  | zero=>exact λy h=>h
  | succ k j =>
   refine λy h=>j y ?_;have h:ae (aa k y)∈walls (ae<|aa k bx):=h;generalize aa k y=a at h;generalize aa k bx=c at h;have h:ae a=wN (ae c)\/ae a=wE (ae c)\/ae a=wS (ae c)\/ae a=wW (ae c):=by simpa[walls] using h
   have:a=wE c\/a=wS c\/a=wW c\/a=wN c:=by
    rcases h with h|h|h|h
    ·left;have d:=congrArg Ob.l h;have f:=congrArg Ob.b h;have g:=congrArg Ob.r h;have i:=congrArg Ob.t h;simp only[ae,wN] at d f g i;exact mC (by simp only[wE];omega) (by simp_all [wE]) (by simp only[wE];omega) (by simp_all [wE])
    ·right;left;have d:=congrArg Ob.l h;have f:=congrArg Ob.b h;have g:=congrArg Ob.r h;have i:=congrArg Ob.t h;simp only[ae,wE] at d f g i;exact mC (by simp only[wS];omega) (by simp only[wS];lia) (by simp only[wS];omega) (by simp_all [wS])
    ·right;right;left;have d:=congrArg Ob.l h;have f:=congrArg Ob.b h;have g:=congrArg Ob.r h;have i:=congrArg Ob.t h;simp only[ae,wS] at d f g i;exact mC (by simp only[wW];omega) (by simp_all [wW]) (by simp only[wW];omega) (by simp_all [wW])
    right;right;right;have d:=congrArg Ob.l h;have f:=congrArg Ob.b h;have g:=congrArg Ob.r h;have i:=congrArg Ob.t h;simp only[ae,wW] at d f g i;exact mC (by simp only[wN];omega) (by simp_all [wN]) (by simp only[wN];omega) (by grind [wN])
   grind [walls]
 constructor
 ·rintro (h|h)
  ·obtain⟨z,o,e⟩:=bg.1 h;rw[<-i9 k e];exact ι o
  exact τ<|wl k y h
 rintro (h|h)
 ·exact ι<|bg.2 ⟨y,h,ρ⟩
 exact τ<|vT h k
def lO(k:Nat)(h:bx.ok):(aa k bx).ok:=kz k h
def xG(k)(hk:k<4)(o):∃y,aa k y=o:=by
 have a:=jh;have b:k=0\/k=1\/k=2\/k=3:=by lia
 rcases b with rfl|rfl|rfl|rfl
 ·exact⟨o,ρ⟩
 ·exact⟨ae<|ae<|ae o,a o⟩
 ·exact⟨ae<|ae o,a o⟩
 exact⟨ae o,a o⟩
def aB.chain(T:aB bx os)(s:bx.ok)(hx:x∈os)(nd:(os++walls bx).Nodup)(t:k<4):bI (os++walls bx) x k≠[]/\(∀(i:Nat) a b,(bI (os++walls bx) x k)[i]?=al a->(bI (os++walls bx) x k)[i+1]?=al b->(aa k a).r=(aa k b).l) /\
  (∀a,(bI (os++walls bx) x k)[0]?=al a->(aa k a).l<=(aa k x).l)/\(∀a,(bI (os++walls bx) x k)[(bI (os++walls bx) x k).length-1]?=al a->(aa k x).r<=(aa k a).r):=by
 have u:(bI (os++walls bx) x k).Nodup:=(gn _ _).nodup_iff.2 (nE n5 nd);have key:=(T.turns k).Kx (lO k s) (bg.2 ⟨x,hx,ρ⟩) (λy=>by
  obtain⟨z,rfl⟩:=xG k t y;rw[rT,bg];constructor
  ·rintro⟨w,hw,e⟩;rw[i9 k e] at hw;obtain⟨f,g⟩:=gK.1 hw;exact⟨ee.1 f,g⟩
  ·rintro⟨f,g⟩;exact⟨z,gK.2 ⟨ee.2 f,g⟩,ρ⟩) (hI.2 (u.imp λh e=>h<|i9 k e)) (λi j a b o c d=>by
  rw[c6] at c d;obtain⟨a',p,rfl⟩:=gW.1 c;obtain⟨b',q,rfl⟩:=gW.1 d;exact Oq o p q)
 obtain⟨v,A,B,C⟩:=key;refine⟨λz=>v (by rw[z];rfl),λi a b c d=>A i _ _ (by rw[c6,c];rfl) (by rw[c6,d];rfl),λa c=>B _ (by rw[c6,c];rfl),λa c=>C _ (by simp_all)⟩
def sR (R:α->α->Prop)(l:List α):Prop:=∀(i:Nat) a b,l[i]?=al a->l[i+1]?=al b->R a b
def xX (f:sR R A)(g:sR R B)(h:∀a b,A[A.length-1]?=al a->B[0]?=al b->R a b):sR R (A++B):=by
 intro i a b c d;by_cases j:i+1<A.length
 ·rw[hG (by lia)] at c;rw[hG j] at d;exact f i a b c d
 by_cases k:i<A.length
 ·have e:i=A.length-1:=⋯;rw[hG k,e] at c;rw[hE (by omega),show i+1-A.length=0 from by omega] at d;exact h a b c d
 rw[hE (by omega)] at c d;exact g (i-A.length) a b c (by grind)
def xY (a:B≠[]):(A++B)[(A++B).length-1]?=B[B.length-1]?:=by
 have:=ql.2 a;rw[hE (by rw[eW];omega),eW]
 congr 1
 lia
def JI (a:A≠[]):(A++B)[0]?=A[0]?:=by rw[hG (ql.2 a)]
def aB.wF(T:aB bx os)(f:bx.ok)(hx:x∈os)(nd:(os++walls bx).Nodup)(c:k<4):sR (bQ x) (bI (os++walls bx) x k):=by intro i a b d e;refine⟨k,c,ι ⟨(gK.1<|eH d).2,(gK.1<|eH e).2,(T.chain f hx nd c).2.1 i a b d e⟩⟩
def aB.uO(T:aB bx os)(d:bx.ok)(hx:x∈os)(nd:(os++walls bx).Nodup)(e:k<4)(h:j<4)(c:∀o,aa j o=ae (aa k o))(f:(bI (os++walls bx) x k)[(bI (os++walls bx) x k).length-1]?=al a)(g:(bI (os++walls bx) x j)[0]?=al b):bQ x a b:=by
 refine⟨k,e,τ ⟨(gK.1<|eH f).2,(T.chain d hx nd e).2.2.2 a f,?_,?_⟩⟩
 ·simp[<-c];exact (gK.1<|eH g).2
 have:=(T.chain d hx nd h).2.2.1 b g;simp_all [ae]
def aB.Ad(T:aB bx os)(c:bx.ok)(hx:x∈os)(nd:(os++walls bx).Nodup)(d:(bq (os++walls bx) x)[i]?=al a)(f:(bq (os++walls bx) x)[(i+1)%(bq (os++walls bx) x).length]?=al b):bQ x a b:=by
 have s:=(T.chain c hx nd (k:=0) ⋯).1;have t:=(T.chain c hx nd (k:=1) ⋯).1;have u:=(T.chain c hx nd (k:=2) ⋯).1;have v:=(T.chain c hx nd (k:=3) ⋯).1;have g:∀a b,(bI (os++walls bx) x 0)[(bI (os++walls bx) x 0).length-1]?=al a->(bI (os++walls bx) x 1)[0]?=al b->bQ x a b:=λa b=>T.uO c hx nd ⋯ ⋯ λo=>rfl;have l:∀a b,(bI (os++walls bx) x 1)[(bI (os++walls bx) x 1).length-1]?=al a->(bI (os++walls bx) x 2)[0]?=al b->bQ x a b:=λa b=>T.uO c hx nd ⋯ ⋯ λo=>rfl;have p:∀a b,(bI (os++walls bx) x 2)[(bI (os++walls bx) x 2).length-1]?=al a->(bI (os++walls bx) x 3)[0]?=al b->bQ x a b:=λa b=>T.uO c hx nd ⋯ ⋯ λo=>rfl;have q:∀a b,(bI (os++walls bx) x 3)[(bI (os++walls bx) x 3).length-1]?=al a->(bI (os++walls bx) x 0)[0]?=al b->bQ x a b:=λa b=>T.uO c hx nd (k:=3) (j:=0) ⋯ ⋯ λo=>(jh o).symm;have r:sR (bQ x) (bq (os++walls bx) x):=by
  refine xX (xX (xX (T.wF c hx nd ⋯) (T.wF c hx nd ⋯) g) (T.wF c hx nd ⋯) λa b d f=>?_) (T.wF c hx nd ⋯) λa b d f=>?_
  ·rw[xY t] at d;exact l a b d f
  rw[xY u] at d;exact p a b d f
 have hi:=(cm.1 d).1;by_cases h:i+1<(bq (os++walls bx) x).length
 ·rw[hS h] at f;exact r i a b d f
 have e:i+1=(bq (os++walls bx) x).length:=by lia
 rw[e,Dt] at f;have w:i=(bq (os++walls bx) x).length-1:=by lia
 rw[w] at d;apply q a b
 ·rw[<-(xY (A:=bI (os++walls bx) x 0++bI (os++walls bx) x 1++bI (os++walls bx) x 2) v)];exact d
 have B:(bq (os++walls bx) x)[0]?=(bI (os++walls bx) x 0)[0]?:=by delta bq;rw[um,um,JI s]
 rwa[<-B]
def iB:y∈bq N x ↔ y∈N/\∃k,k<4/\Up (aa k x) (aa k y):=by
 delta bq;simp only[ee,gK,gK,gK,gK];constructor
 ·rintro (((h|h)|h)|h)
  ·exact⟨h.1,0,⋯,h.2⟩
  ·exact⟨h.1,1,⋯,h.2⟩
  ·exact⟨h.1,2,⋯,h.2⟩
  exact⟨h.1,3,⋯,h.2⟩
 rintro⟨h,k,hk,u⟩;have a:k=0\/k=1\/k=2\/k=3:=by lia
 rcases a with rfl|rfl|rfl|rfl
 ·exact ι<|ι<|ι ⟨h,u⟩
 ·exact ι<|ι<|τ ⟨h,u⟩
 ·exact ι<|τ ⟨h,u⟩
 exact τ ⟨h,u⟩
def aB.Qh(T:aB bx os)(g:bx.ok)(hx:x∈os)(nd:(os++walls bx).Nodup):(bq (os++walls bx) x).Nodup:=by
 have f:∀k,(bI (os++walls bx) x k).Nodup:=λk=>(gn _ _).nodup_iff.2 (nE n5 nd);have i:=Nb.ok T g<|ι hx;have cE:∀{j k:Nat},j<4->k<4->j≠k->∀a∈bI (os++walls bx) x j,∀b∈bI (os++walls bx) x k,a≠b:=λ{j k} o p h a c b d e=>by subst e;obtain⟨q,s⟩:=gK.1 c;obtain⟨h2,u⟩:=gK.1 d;exact h<|F1 o p i (Nb.ok T g<|ee.1 q) s u
 delta bq;rw[lp,lp,lp];refine⟨⟨⟨f 0,f 1,cE ⋯ ⋯ ⋯⟩,f 2,λa c b d=>?_⟩,f 3,λa c b d=>?_⟩
 ·rcases ee.1 c with c|c
  ·exact cE ⋯ ⋯ ⋯ a c b d
  exact cE ⋯ ⋯ ⋯ a c b d
 rcases ee.1 c with c|c
 ·rcases ee.1 c with c|c
  ·exact cE ⋯ ⋯ ⋯ a c b d
  exact cE ⋯ ⋯ ⋯ a c b d
 exact cE ⋯ ⋯ ⋯ a c b d
def aE (l:List α)(n m:α):Prop:=∃i,l[i]?=al n/\l[(i+1)%l.length]?=al m
def aB.dC(T:aB bx os)(b:bx.ok)(hx:x∈os)(nd:(os++walls bx).Nodup)(c:Nb bx os n)(j:Nb bx os m):aE (bq (os++walls bx) x) n m ↔ bQ x n m:=by
 constructor
 ·rintro⟨i,l,o⟩;exact T.Ad b hx nd l o
 intro h;have p:n∈bq (os++walls bx) x:=by obtain⟨k,q,f⟩:=h;exact iB.2 ⟨ee.2 c,k,q,f.up⟩
 obtain⟨i,r,e⟩:=wy p;have e:(bq (os++walls bx) x)[i]?=al n:=by rw[cn r,e]
 have d:(i+1)%(bq (os++walls bx) x).length<(bq (os++walls bx) x).length:=Xx _ (by lia);have a:=cn d;generalize (bq (os++walls bx) x)[(i+1)%(bq (os++walls bx) x).length]=m' at a;have g:=ee.1 (iB.1<|eH a).1;have:=T.KI b hx c j g h<|T.Ad b hx nd e a;subst this;exact⟨i,e,a⟩
def aB.Hu(T:aB bx os)(c:bx.ok)(hx:x∈os)(nd:(os++walls bx).Nodup)(h:aE (bq (os++walls bx) x) n m):(n∈os->aE (bq (os++walls bx) n) m x)/\(m∈os->aE (bq (os++walls bx) m) x n):=by
 have d:Nb bx os n:=by obtain⟨i,e,_⟩:=h;exact ee.1 (iB.1<|eH e).1
 have f:Nb bx os m:=by obtain⟨i,_,e⟩:=h;exact ee.1 (iB.1<|eH e).1
 obtain⟨a,b⟩:=T.close hx ((T.dC c hx nd d f).1 h) d f;exact⟨λz=>(T.dC c z nd f<|ι hx).2 (a z),λz=>(T.dC c z nd (ι hx) d).2 (b z)⟩
noncomputable def az (f:α->Nat):List α->Nat
 | []=>0
 | a::l=>f a+az f l
theorem uC (f):∀l b:List α,az f (l++b)=az f l+az f b
 | [],b=>by simp[az]
 | a::l,b=>by show f a+az f (l++b)=f a+az f l+az f b;rw[uC f l b];lia
theorem cS:∀{l:List α},(∀a∈l,f a=g a)->az f l=az g l
 | [],_=>rfl
 | a::l,h=>by show f a+az f l=g a+az g l;rw[h a ⋯,cS λb c=>h b (by simp[c])]
theorem jH (f g):∀l:List α,az (λa=>f a+g a) l=az f l+az g l
 | []=>rfl
 | a::l=>by show f a+g a+az (λa=>f a+g a) l=f a+az f l+(g a+az g l);rw[jH f g l];lia
theorem rf (c):∀l:List α,az (λ_=>c) l=c*l.length
 | []=>rfl
 | a::l=>by show c+az (λ_=>c) l=c*(l.length+1);simp only[rf c l,Nat.mul_add];lia
theorem uB (p):∀l:List α,az (λa=>if p a=bi then 1 else 0) l=l.countP p
 | []=>rfl
 | a::l=>by show (if p a=bi then 1 else 0)+az (λa=>if p a=bi then 1 else 0) l=_;simp only[uB p l,me];lia
theorem vM (p:α->d->Bool)(l:List α)(c:List d):az (λa=>c.countP<|p a) l=az (λb=>l.countP λa=>p a b) c:=by
 induction l with
 | nil=>show 0=_;simp[show az (λb=>aa' (λa=>p a b) []) c=az (λ_=>0) c from ρ,rf,Nat.zero_mul]
 | cons a l e=>show c.countP (p a)+az (λa=>c.countP<|p a) l=_;rw[e,<-uB,<-jH];refine cS λb _=>?_;simp[me];lia
theorem gI (p q:α->Bool)(l:List α):l.countP p=(l.countP λa=>p a&&q a)+l.countP λa=>p a&&!q a:=by
 induction l with
 | nil=>rfl
 | cons a l b=>simp only[me,b];cases p a<;>cases q a<;>simp<;>lia
theorem mS{α:Type}{p:α->Bool}{l:List α}(nd:l.Nodup)(ex:∃a∈l,p a=bi)(un:∀a∈l,∀b∈l,p a=bi->p b=bi->a=b):l.countP p=1:=by
 induction l with
 | nil=>simp_all
 | cons c l i =>
  rw[lq] at nd;rw[me];by_cases e:p c=bi
  ·rw[if_pos e];have:l.countP p=0:=by rw[Ts];intro b f h;have:=un c ⋯ b (by simp[f]) e h;subst this;exact nd.1 f
   lia
  rw[if_neg e];obtain⟨a,d,g⟩:=ex;rcases eS.1 d with rfl|d
  ·cases e g
  rw[i nd.2 ⟨a,d,g⟩ λa d b f=>un a (by simp[d]) b (by simp[f])]
def aB.xW(T:aB bx os)(f:bx.ok)(c:Nb bx os z)(hx:x∈os)(u:Up z x)(h1:z.l<=p)(h2:p<z.r):∃y∈os,Up z y/\y.l<=p/\p<y.r:=by
 have ix:=T.aK x hx;have oz:=Nb.ok T f c;have wl:∀{o:Ob},o∈walls bx->o=wN bx\/o=wE bx\/o=wS bx\/o=wW bx:=λ{o} h=>by simpa[walls] using h
 have hb:bx.l<=z.l/\z.r<=bx.r/\bx.b<=z.t/\z.t<bx.t:=by
  delta Up at u;rcases c with h|h
  ·have:=T.aK z h;omega
  rcases wl h with rfl|rfl|rfl|rfl<;>simp only[wN,wE,wS,wW] at u ⊢<;>omega
 obtain⟨y,d,g,i,k3,k4⟩:=T.hit p z.t (by omega) (by omega) (by omega) (by omega);refine⟨y,d,?_,g,i⟩;delta Up;rcases Nb.ap T f c (ι d) with e|a
 ·subst e;lia
 delta Apart at a;lia
def aB.firsts(T:aB bx os)(e:bx.ok)(nd:os.Nodup)(f:Nb bx os z):(os.countP λx=>bd (Up z x)&&bd (z.l<x.l))=os.countP λx=>bd (Up z x)&&bd (x.r<z.r):=by
 by_cases h:∃x∈os,Up z x
 ·obtain⟨x,hx,u⟩:=h;have s:=Nb.ok T e f;have c1:=gI (λx=>bd<|Up z x) (λx=>bd<|z.l<x.l) os;have c2:=gI (λx=>bd<|Up z x) (λx=>bd<|x.r<z.r) os;have f1:(os.countP λa=>bd (Up z a)&&!bd (z.l<a.l))=1:=by
   apply mS nd
   ·obtain⟨y,g,i,t,v⟩:=T.xW e f hx u ⋯ s.1;exact⟨y,g,by simp[i];omega⟩
   intro a c b d j k;simp at j k;have w:=T.aK a c;have A:=T.aK b d;refine (T.ap a c b d).resolve_right λq=>?_;grind [Apart,Up]
  have f2:(os.countP λa=>bd (Up z a)&&!bd (a.r<z.r))=1:=by
   apply mS nd
   ·obtain⟨y,g,i,t,v⟩:=T.xW e f hx u (p:=z.r-1) (by lia) (by lia);exact⟨y,g,by simp[i];lia⟩
   intro a c b d j k;simp at j k;have w:=T.aK a c;have A:=T.aK b d;refine (T.ap a c b d).resolve_right λq=>?_;grind [Apart,Up]
  simp_all
 have o:∀q:Ob->Bool,(os.countP λx=>bd (Up z x)&&q x)=0:=by simp_all
 simp[o]
def aB.Ip(T:aB bx os)(f:bx.ok)(hx:x∈os){N:List Ob}(c:∀y,y∈N ↔ Nb bx os y)(nd:N.Nodup) :
  (N.countP λz=>bd (Up x z)&&bd (x.r<z.r))+(N.countP λz=>bd (Up (ae x)<|ae z)&&bd ((ae z).l<(ae x).l))+(if x.t=bx.t/\x.r=bx.r then 1 else 0)=1:=by
 have i:=T.aK x hx;have wl:∀{o:Ob},o∈walls bx->o=wN bx\/o=wE bx\/o=wS bx\/o=wW bx:=λ{o} h=>by simpa[walls] using h
 have M:wN bx∈N:=(c _).2 (τ (by simp[walls]));have O:wE bx∈N:=(c _).2 (τ (by simp[walls]));have Q:∀a∈N,∀b∈N,(bd (Up x a)&&bd (x.r<a.r))=bi->(bd (Up x b)&&bd (x.r<b.r))=bi->a=b:=λa e b k d j=>by simp at d j;have E:=Nb.ok T f<|(c a).1 e;have F:=Nb.ok T f<|(c b).1 k;refine (Nb.ap T f ((c a).1 e)<|(c b).1 k).resolve_right λq=>?_;unfold Apart at q;delta Up at d j;omega
 have R:∀a∈N,∀b∈N,(bd (Up (ae x)<|ae a)&&bd ((ae a).l<(ae x).l))=bi->(bd (Up (ae x)<|ae b)&&bd ((ae b).l<(ae x).l))=bi->a=b:=λa e b k d j=>by simp at d j;have E:=Nb.ok T f<|(c a).1 e;have F:=Nb.ok T f<|(c b).1 k;refine (Nb.ap T f ((c a).1 e)<|(c b).1 k).resolve_right λq=>?_;unfold Apart at q;delta Up at d j;simp only[ae] at d j;omega
 obtain⟨n,A,un,Y⟩:∃n∈N,Up x n/\x.r<=n.r:=by
  by_cases S:x.t<bx.t
  ·obtain⟨y,G,H,U,Z⟩:=T.cover hx S (p:=x.r-1) ⋯ (by lia);exact⟨y,(c y).2 (ι G),H,by lia⟩
  exact⟨wN bx,M,by delta Up wN;dsimp only;omega,by simp only[wN];omega⟩
 obtain⟨m,B,g,em⟩:∃m∈N,Up (ae x) (ae m)/\x.t<=m.t:=by
  by_cases S:x.r<bx.r
  ·obtain⟨y',V,H,U,Z⟩:=T.turn.cover (bg.2 ⟨x,hx,ρ⟩) (by simp only[ae];omega) (p:=(ae x).l) ⋯ (by simp only[ae];omega);obtain⟨y,G,rfl⟩:=bg.1 V;exact⟨y,(c y).2 (ι G),H,by simp only[ae] at U;lia⟩
  exact⟨wE bx,O,by unfold Up;simp only[ae,wE];omega,by simp only[wE];omega⟩
 have W:∀{q:Ob->Bool},(∃a∈N,q a=bi)->(∀a∈N,∀b∈N,q a=bi->q b=bi->a=b)->N.countP q=1:=λex un=>mS nd ex un;have c0:∀{q:Ob->Bool},(∀a∈N,q a≠true)->N.countP q=0:=λh=>Ts.2 h;have C:∀a∈N,(bd (Up x a)&&bd (x.r<a.r))=bi->a=n:=λa e d=>by simp at d;have E:=Nb.ok T f<|(c a).1 e;have F:=Nb.ok T f<|(c n).1 A;refine (Nb.ap T f ((c a).1 e)<|(c n).1 A).resolve_right λq=>?_;unfold Apart at q;delta Up at d un;omega
 have D:∀a∈N,(bd (Up (ae x)<|ae a)&&bd ((ae a).l<(ae x).l))=bi->a=m:=λa e d=>by simp at d;have E:=Nb.ok T f<|(c a).1 e;have F:=Nb.ok T f<|(c m).1 B;refine (Nb.ap T f ((c a).1 e)<|(c m).1 B).resolve_right λq=>?_;unfold Apart at q;delta Up at d g;simp only[ae] at d g;omega
 have s:x.r<n.r->(N.countP λz=>bd (Up x z)&&bd (x.r<z.r))=1:=λh=>W ⟨n,A,by simp[un,h]⟩ Q;have u:¬x.r<n.r->(N.countP λz=>bd (Up x z)&&bd (x.r<z.r))=0:=λh=>c0 λa e d=>by have:=C a e d;subst this;simp only[gj,decide_eq_true_eq] at d;exact h d.2
 have v:x.t<m.t->(N.countP λz=>bd (Up (ae x)<|ae z)&&bd ((ae z).l<(ae x).l))=1:=λh=>W ⟨m,B,by simp only[gj,decide_eq_true_eq];exact⟨g,by simp only[ae];omega⟩⟩ R;have w:¬x.t<m.t->(N.countP λz=>bd (Up (ae x)<|ae z)&&bd ((ae z).l<(ae x).l))=0:=λh=>c0 λa e d=>by have:=D a e d;subst this;simp only[gj,decide_eq_true_eq] at d;have:=d.2;simp only[ae] at this;lia
 rcases (c n).1 A with I|wn<;>rcases (c m).1 B with J|X
 ·have jn:=T.aK n I;have jm:=T.aK m J;rw[if_neg (by unfold Up at un;omega)];rcases T.tee hx I J un Y g em with⟨a,b⟩|⟨a,b⟩
  ·rw[s a,w (by lia)]
  rw[u (by lia),v b]
 ·have jn:=T.aK n I;obtain⟨rfl,K⟩:=nB X i g;have L:=un.1;rw[u (by omega),v (by have:=g.2.1;dsimp only[ae,wE] at this ⊢;omega),if_neg (by omega)]
 ·have jm:=T.aK m J;obtain⟨rfl,K⟩:=kX wn i un;have L:m.l=x.r:=g.1;rw[s (by have:=un.2.2;dsimp only[wN] at this ⊢;omega),w (by omega),if_neg (by omega)]
 obtain⟨rfl,L⟩:=kX wn i un;obtain⟨rfl,K⟩:=nB X i g;rw[u (by dsimp only[wN];omega),w (by dsimp only[wE];omega),if_pos ⟨L,K⟩]
def nf(k:Nat)(z x:Ob):Bool:=bd (Up (aa k z)<|aa k x)&&bd ((aa k z).l<(aa k x).l)
def nl(k:Nat)(z x:Ob):Bool:=bd (Up (aa k z)<|aa k x)&&bd ((aa k x).r<(aa k z).r)
def on(k:Nat)(z x:Ob):Bool:=bd<|Up (aa k z)<|aa k x
def xN(z x):Up z x ↔ Up (ae<|ae x) (ae<|ae z):=by delta Up;simp[ae];lia
noncomputable def ex(k:Nat)(x z:Ob):Bool:=bd (Up (aa k x)<|aa k z)&&bd ((aa k x).r<(aa k z).r)
def st(k:Nat)(x z:Ob):Bool:=bd (Up (aa k x)<|aa k z)&&bd ((aa k z).l<(aa k x).l)
def MN(z x):nf 0 z x=ex 2 x z:=by
 delta nf ex;simp[show bd (Up (aa 0 z)<|aa 0 x)=bd (Up (aa 2 x)<|aa 2 z) from decide_eq_decide.2<|xN z x]
 congr 1;apply decide_eq_decide.2;simp[aa,ae]
def JD(z x):nl 0 z x=st 2 x z:=by
 delta nl st;simp[show bd (Up (aa 0 z)<|aa 0 x)=bd (Up (aa 2 x)<|aa 2 z) from decide_eq_decide.2<|xN z x]
 congr 1;apply decide_eq_decide.2;simp[aa,ae]
def yy(k)(o):aa (k+4) o=aa k o:=jh<|aa k o
theorem lh(j):∀(k:Nat) (o:Ob),aa (j+k) o=aa k (aa j o)
 | 0,_=>rfl
 | k+1,o=>by show ae (aa (j+k) o)=ae (aa k<|aa j o);rw[lh j k o]
def M0(k)(z x):nf k z x=ex (k+2) x z:=by have:=MN (aa k z)<|aa k x;assumption
def KR(k)(z x):nl k z x=st (k+2) x z:=by have:=JD (aa k z)<|aa k x;assumption
def sS(k)(x z):st (k+4) x z=st k x z:=by simp[st,yy]
def vX(k:Nat){l:List Ob}(h:l.Nodup):(l.map<|aa k).Nodup:=hI.2 (h.imp λa e=>a<|i9 k e)
def aB.T5(T:aB bx os)(a:bx.ok)(nd:os.Nodup)(b:Nb bx os z)(k:Nat):os.countP (nf k z)=os.countP (nl k z):=by have:=(T.turns k).firsts (lO k a) (vX k nd) ((rT k).2 b);simp at this;exact this
def aB.corner(T:aB bx os)(a:bx.ok)(hx:x∈os)(nd:(os++walls bx).Nodup)(b:k<4) :
  (os++walls bx).countP (λz=>bd (Up (aa k x)<|aa k z)&&bd ((aa k x).r<(aa k z).r))+(os++walls bx).countP (λz=>bd (Up (aa (k+1) x)<|aa (k+1) z)&&bd ((aa (k+1) z).l<(aa (k+1) x).l))+(if (aa k x).t=(aa k bx).t/\(aa k x).r=(aa k bx).r then 1 else 0)=1:=by
 have:=(T.turns k).Ip (lO k a) (bg.2 ⟨x,hx,ρ⟩) (λy=>by
  obtain⟨z,rfl⟩:=xG k b y;rw[rT,bg];constructor
  ·rintro⟨w,hw,e⟩;simp only[i9 k e] at hw;exact ee.1 hw
  exact λh=>⟨z,ee.2 h,ρ⟩) (vX k nd)
 simp only[ri] at this;exact this
def aB.outer(T:aB bx os)(i:bx.ok)(nd:os.Nodup)(k:Nat):az (λx=>if (aa k x).t=(aa k bx).t/\(aa k x).r=(aa k bx).r then 1 else 0) os=1:=by
 have c:=T.turns k;have f:=lO k i;have e:az (λx=>if (aa k x).t=(aa k bx).t/\(aa k x).r=(aa k bx).r then 1 else 0) os=os.countP λx=>bd ((aa k x).t=(aa k bx).t/\(aa k x).r=(aa k bx).r):=by grind [uB]
 rw[e];unfold Ob.ok at f;apply mS nd
 ·obtain⟨o,g,k1,k2,k3,k4⟩:=c.hit ((aa k bx).r-1) ((aa k bx).t-1) (by lia) (by lia) (by lia) (by lia);obtain⟨a,d,rfl⟩:=bg.1 g;have:=c.aK _ g;exact⟨a,d,by rw[decide_eq_true_eq];lia⟩
 intro a d b h j l;have ja:=c.aK _<|bg.2 ⟨a,d,ρ⟩;have jb:=c.aK _<|bg.2 ⟨b,h,ρ⟩;refine i9 k ((c.ap _ (bg.2 ⟨a,d,ρ⟩) _<|bg.2 ⟨b,h,ρ⟩).resolve_right λq=>?_);grind [Apart]
noncomputable def bX(f:Nat->Nat):Nat:=f 0+f 1+f 2+f 3
def xu (f:Nat->α->Nat)(l:List α):az (λa=>bX λk=>f k a) l=bX λk=>az (f k) l:=by simp[bX,jH]
def aB.pairs(T:aB bx os)(h:bx.ok)(nd:(os++walls bx).Nodup):2*az (λz=>bX λk=>os.countP<|nf k z) (os++walls bx)+4=4*os.length:=by
 have e:=(lp.1 nd).1;have b:∀k,az (λz=>os.countP<|nf k z) (os++walls bx)=az (λx=>(os++walls bx).countP (ex (k+2) x)) os:=by simp[vM,M0]
 have d:∀k,az (λz=>os.countP<|nf k z) (os++walls bx)=az (λx=>(os++walls bx).countP (st (k+2) x)) os:=λk=>by rw[cS (g:=λz=>os.countP<|nl k z) λz o=>T.T5 h e (ee.1 o) k,vM];simp[KR]
 have j:∀k x,(os++walls bx).countP (ex (k+4) x)=(os++walls bx).countP (ex k x):=λk x=>by congr 1;funext z;exact (λk x z=>by simp[ex,yy]) k x z
 have i:∀k x,(os++walls bx).countP (st (k+4) x)=(os++walls bx).countP (st k x):=λk x=>by congr 1;funext z;exact sS k x z
 have c:∀k,k<4->az (λx=>(os++walls bx).countP (ex k x)) os+az (λx=>(os++walls bx).countP (st (k+1) x)) os+1=os.length:=λk p=>by have a:=cS (l:=os) (f:=λx=>(os++walls bx).countP (ex k x)+(os++walls bx).countP (st (k+1) x)+(if (aa k x).t=(aa k bx).t/\(aa k x).r=(aa k bx).r then 1 else 0)) (g:=λ_=>1) λx hx=>T.corner h hx nd p;simpa only[jH,jH,rf,T.outer h e k,Nat.one_mul] using a
 have c1:=c 1 (by decide);have q:=c 3 (by decide);have a1:=b 1;have s:=b 2;have u:=b 3;have b0:=d 0;have v:=d 2;have w:=d 3;rw[cS λx _=>j 0 x] at s;rw[cS (g:=λx=>(os++walls bx).countP (ex 1 x)) λx _=>j 1 x] at u;rw[cS (g:=λx=>(os++walls bx).countP (st 0 x)) λx _=>i 0 x] at v;rw[cS (g:=λx=>(os++walls bx).countP (st 0 x)) λx _=>i 0 x] at q;rw[xu];grind [bX]
def aB.IG(T:aB bx os)(c:bx.ok)(nd:os.Nodup)(d:Nb bx os z)(h:∃x∈os,Up z x):(os.countP λx=>bd<|Up z x)=(os.countP λx=>bd (Up z x)&&bd (z.l<x.l))+1:=by
 obtain⟨x,hx,u⟩:=h;have j:=Nb.ok T c d;rw[gI (λx=>bd<|Up z x) (λx=>bd<|z.l<x.l) os]
 congr 1;apply mS nd
 ·obtain⟨y,k,o,k1,k2⟩:=T.xW c d hx u ⋯ j.1;exact⟨y,k,by simp[o];omega⟩
 intro a e b f g i;simp at g i;have ja:=T.aK a e;have jb:=T.aK b f;refine (T.ap a e b f).resolve_right λq=>?_;unfold Apart at q;delta Up at g i;omega
def aB.Ul(T:aB bx os)(a:bx.ok)(nd:os.Nodup)(b:Nb bx os z)(k:Nat)(h:∃x∈os,on k z x=bi):os.countP (on k z)=os.countP (nf k z)+1:=by
 have:=(T.turns k).IG (lO k a) (vX k nd) ((rT k).2 b) (by obtain⟨x,hx,u⟩:=h;exact⟨aa k x,bg.2 ⟨x,hx,ρ⟩,of_decide_eq_true u⟩)
 simp at this;exact this
def Mr (h:∀x∈os,on k z x=bn):os.countP (on k z)=0/\os.countP (nf k z)=0:=by constructor;simp_all;rw[Ts];intro x hx e;have:nf k z x=(on k z x&&bd ((aa k z).l<(aa k x).l)):=ρ;simp_all
def aB.Qd(T:aB bx os)(p:bx.ok)(nd:os.Nodup)(q:z∈walls bx):bX (λk=>os.countP<|on k z)=bX (λk=>os.countP<|nf k z)+1:=by
 have wl:z=wN bx\/z=wE bx\/z=wS bx\/z=wW bx:=by simpa[walls] using q
 have s:=p;unfold Ob.ok at s;obtain⟨a,d,a1,a2,a3,a4⟩:=T.hit bx.l bx.b (by lia) (by lia) (by lia) (by lia);obtain⟨b,e,b1,b2,b3,b4⟩:=T.hit (bx.r-1) (bx.t-1) (by lia) (by lia) (by lia) (by lia);have ja:=T.aK a d;have jb:=T.aK b e;have no:∀k,(∀x,(bx.l<=x.l/\x.l<x.r/\x.r<=bx.r/\bx.b<=x.b/\x.b<x.t/\x.t<=bx.t)->¬Up (aa k z) (aa k x))->os.countP (on k z)=0/\os.countP (nf k z)=0:=λk h=>Mr λx hx=>decide_eq_false<|h x<|T.aK x hx;have c:∀k,(∃x∈os,Up (aa k z)<|aa k x)->os.countP (on k z)=os.countP (nf k z)+1:=λk ⟨x,hx,u⟩=>T.Ul p nd (τ q) k ⟨x,hx,decide_eq_true u⟩;delta bX;dsimp only;rcases wl with rfl|rfl|rfl|rfl
 ·have f:=no 0 (λx i u=>by simp only[aa,ae,Up,wN] at u;omega);have g:=no 1 (λx i u=>by simp only[aa,ae,Up,wN] at u;omega);have j:=no 3 (λx i u=>by simp only[aa,ae,Up,wN] at u;omega);have o:=c 2 ⟨b,e,by simp only[aa,ae,Up,wN];omega⟩;lia
 ·have f:=no 0 (λx i u=>by simp only[aa,ae,Up,wE] at u;omega);have g:=no 1 (λx i u=>by simp only[aa,ae,Up,wE] at u;omega);have o:=no 2 (λx i u=>by simp only[aa,ae,Up,wE] at u;omega);have j:=c 3 ⟨b,e,by simp only[aa,ae,Up,wE];omega⟩;lia
 ·have g:=no 1 (λx i u=>by simp only[aa,ae,Up,wS] at u;omega);have o:=no 2 (λx i u=>by simp only[aa,ae,Up,wS] at u;omega);have j:=no 3 (λx i u=>by simp only[aa,ae,Up,wS] at u;omega);have f:=c 0 ⟨a,d,by simp only[aa,ae,Up,wS];omega⟩;lia
 have f:=no 0 (λx i u=>by simp only[aa,ae,Up,wW] at u;omega);have o:=no 2 (λx i u=>by simp only[aa,ae,Up,wW] at u;omega);have j:=no 3 (λx i u=>by simp only[aa,ae,Up,wW] at u;omega);have g:=c 1 ⟨a,d,by simp only[aa,ae,Up,wW];omega⟩;lia
def aB.uS(T:aB bx os)(c:bx.ok)(hx:x∈os)(nd:(os++walls bx).Nodup)(p:k<4):(os++walls bx).countP (on k x)=os.countP (nf k x)+1:=by
 obtain⟨ne,_,s,_⟩:=T.chain c hx nd p;have sp:=gI (on k x) (λz=>bd<|(aa k x).l<(aa k z).l)<|os++walls bx;have u:((os++walls bx).countP λa=>on k x a&&!bd ((aa k x).l<(aa k a).l))=1:=by
  apply mS nd
  ·obtain⟨a,d⟩:∃a,(bI (os++walls bx) x k)[0]?=al a:=⟨_,cn<|ql.2 ne⟩;have v:=gK.1<|eH d;have:=s a d;refine⟨a,v.1,?_⟩;simp_all [on]
  intro a d b f g h;unfold on at g h;simp at g h;have oa:=kz k<|Nb.ok T c<|ee.1 d;have ob:=kz k<|Nb.ok T c<|ee.1 f;refine i9 k ((ER k<|Nb.ap T c (ee.1 d)<|ee.1 f).resolve_right λq=>?_);grind [Apart,Up]
 have A:((os++walls bx).countP λa=>on k x a&&bd ((aa k x).l<(aa k a).l))=os.countP (nf k x):=by
  rw[pq];have:((walls bx).countP λa=>on k x a&&bd ((aa k x).l<(aa k a).l))=0:=by
   rw[Ts];intro w hw e;unfold on at e;simp at e;have i:=(T.turns k).aK _ (bg.2 ⟨x,hx,ρ⟩);have j:=vT hw k;have o:=lO k c;have j:aa k w=wN (aa k bx)\/aa k w=wE (aa k bx)\/aa k w=wS (aa k bx)\/aa k w=wW (aa k bx):=by simp_all [walls]
   unfold Up at e;rcases j with q|q|q|q<;>rw[q] at e<;>simp only[wN,wE,wS,wW] at e<;>omega
  rw[this];rfl
 simp only[sp,u,A]
def HL(z x)(k):on k z x=on (k+2) x z:=by exact decide_eq_decide.2<|xN _ _
def E5(k)(z x):on (k+4) z x=on k z x:=by simp[on,yy]
def Kr(l:List Ob)(x:Ob):bX (λk=>l.countP λz=>on k z x)=bX λk=>l.countP (on k x):=by
 have e:∀k,(l.countP λz=>on k z x)=l.countP (on (k+2) x):=λk=>by congr 1;funext z;exact HL z x k
 have f:∀k,l.countP (on (k+4) x)=l.countP (on k x):=λk=>by congr 1;funext z;exact E5 k x z
 grind [bX]
def aB.ties(T:aB bx os)(a:bx.ok)(nd:(os++walls bx).Nodup):az (λx=>bX λk=>os.countP<|on k x) os+2*az (λx=>bX λk=>(walls bx).countP (on k x)) os=6*os.length+2:=by
 have b:=(lp.1 nd).1;have p:=T.pairs a nd;rw[uC] at p;have w1:az (λz=>bX λk=>os.countP<|on k z) (walls bx)=az (λz=>bX λk=>os.countP<|nf k z) (walls bx)+4:=by simp only[cS (g:=λz=>(bX λk=>os.countP<|nf k z)+1) λz c=>T.Qd a b c,jH];rfl
 have w2:az (λz=>bX λk=>os.countP<|on k z) (walls bx)=az (λx=>bX λk=>(walls bx).countP (on k x)) os:=by rw[xu];have:∀k,az (λz=>os.countP<|on k z) (walls bx)=az (λx=>(walls bx).countP λz=>on k z x) os:=λk=>vM _ _ _;rw[show (bX λk=>az (λz=>os.countP<|on k z)<|walls bx)=bX λk=>az (λx=>(walls bx).countP λz=>on k z x) os from congrArg bX (funext this),<-xu];exact cS λx _=>Kr _ x
 have r1:az (λx=>bX λk=>(os++walls bx).countP (on k x)) os=az (λx=>bX λk=>os.countP<|nf k x) os+4*os.length:=by
  rw[cS (g:=λx=>(bX λk=>os.countP<|nf k x)+4) λx hx=>by
   delta bX;simp only[T.uS a hx nd (k:=0) ⋯,T.uS a hx nd (k:=1) ⋯,T.uS a hx nd (k:=2) ⋯,T.uS a hx nd (k:=3) ⋯]
   lia,jH,rf]
 have r2:az (λx=>bX λk=>(os++walls bx).countP (on k x)) os=az (λx=>bX λk=>os.countP<|on k x) os+az (λx=>bX λk=>(walls bx).countP (on k x)) os:=by rw[<-jH];refine cS λx _=>?_;delta bX;simp;lia
 lia
noncomputable def fY (l:List α):List (α×α):=l.zip<|l.drop 1++l.take 1
def Fj(l:List α)(h:i<l.length):(l.drop 1++l.take 1)[i]?=l[(i+1)%l.length]?:=by
 by_cases a:i+1<l.length
 ·rw[hG (by rw[nS];omega),xr,hS a,aa6]
 have e:i+1=l.length:=⋯;rw[hE (by rw[nS];omega),e,Dt,nS,show i-(l.length-1)=0 from by omega];simp
def Er(l:List α):(l.drop 1++l.take 1).length=l.length:=by simp;lia
theorem oF{l:List α}{n m:α}:(n,m)∈fY l ↔ aE l n m:=by
 delta fY aE;constructor
 ·intro h;obtain⟨i,b,e⟩:=wy h;have hl:i<l.length:=by grind
  have e:(l.zip<|l.drop 1++l.take 1)[i]?=al (n,m):=by rw[cn b,e]
  rw[W6] at e;exact⟨i,e.1,by rw[<-Fj l hl];exact e.2⟩
 rintro⟨i,a,c⟩;have hl:=(cm.1 a).1;refine eH (i:=i) ?_;rw[W6];exact⟨a,by rw[Fj l hl];exact c⟩
def yp(l:List α):(fY l).map (·.1)=l:=by exact List.map_fst_zip (by rw[Er];exact fj _)
def NI(l:List α):(fY l).map (·.2)=l.drop 1++l.take 1:=by exact abS (by rw[Er];exact fj _)
def C3(l:List α):(fY l).length=l.length:=by have:=congrArg List.length<|yp l;simp_all
def Mw(l:List α):(l.drop 1++l.take 1).Perm l:=List.perm_append_comm.trans (by rw[W4])
end
structure fy {α:Type}(rooms walls:List α) (ring:α->List α):Prop where
 gy:rooms.Nodup
 cE:∀x∈rooms,x∉walls
 nd:∀x∈rooms,(ring x).Nodup
 len:∀x∈rooms,3<=(ring x).length
 mem:∀x∈rooms,∀y∈ring x,y∈rooms\/y∈walls
 fw:∀x∈rooms,x∉ring x
 sym:∀x∈rooms,∀y∈rooms,y∈ring x->x∈ring y
 gU:∀x∈rooms,∀n m,aE (ring x) n m->n∈rooms->aE (ring n) m x
 gP:∀x∈rooms,∀n m,aE (ring x) n m->m∈rooms->aE (ring m) x n
structure Order {α:Type}(lt:α->α->Bool):Prop where
 fw:∀a,lt a a=bn
 tr:∀a b c,lt a b=bi->lt b c=bi->lt a c=bi
 cR:∀a b,a≠b->lt a b=bi\/lt b a=bi
section
variable{α:Type}{rooms walls:List α}{ring:α->List α}
def aE.mem (h:aE l n m):n∈l/\m∈l:=by obtain⟨i,a,b⟩:=h;exact⟨eH a,eH b⟩
def jf{l:List α}(nd:l.Nodup){i j:Nat}{a:α}(d:l[i]?=al a)(e:l[j]?=al a):i=j:=by
 obtain⟨b,e1⟩:=cm.1 d;obtain⟨c,e2⟩:=cm.1 e;rcases Nat.lt_trichotomy i j with h|h|h
 ·have:=oy.1 nd i j b c h;simp_all
 ·exact h
 have:=oy.1 nd j i c b h;simp_all
def aE.ne (nd:l.Nodup)(hl:3<=l.length)(h:aE l n m):n≠m:=by
 rintro rfl;obtain⟨i,a,b⟩:=h;have hi:=(cm.1 a).1;have:=jf nd a b;by_cases c:i+1<l.length
 ·rw[hS c] at this;lia
 rw[show i+1=l.length from by lia,Dt] at this;lia
def aE.asymm (nd:l.Nodup)(hl:3<=l.length)(h:aE l n m)(h':aE l m n):False:=by
 obtain⟨i,b,e⟩:=h;obtain⟨j,c,f⟩:=h';have g:=(cm.1 b).1;have k:=(cm.1 c).1;have o:=jf nd c e;have p:=jf nd b f;have d:∀a,a<l.length->(a+1)%l.length=if a+1=l.length then 0 else a+1:=λa ha=>by
  split
  ·rename_i h;rw[h,Dt]
  exact hS (by lia)
 rw[d i g] at o;rw[d j k] at p;lia
def corners(rooms:List α)(ring:α->List α):List (α×α×α):=rooms.flatMap λx=>(fY<|ring x).map λp=>(x,p.1,p.2)
theorem fx{x n m:α}:(x,n,m)∈corners rooms ring ↔ x∈rooms/\aE (ring x) n m:=by
 delta corners;rw[zc];constructor
 ·rintro⟨y,a,h⟩;obtain⟨p,b,e⟩:=bg.1 h;cases e;exact⟨a,oF.1 b⟩
 rintro⟨hx,h⟩;exact⟨x,hx,bg.2 ⟨(n,m),oF.2 h,ρ⟩⟩
theorem zS (f:a->List c)(p:c->Bool):∀l:List a,(l.flatMap f).countP p=az (λb=>(f b).countP p) l
 | []=>rfl
 | b::l=>by simp[zS f p l];rfl
theorem kQ(C:fy rooms walls ring):(corners rooms ring).Nodup:=by
 have key:∀l:List α,l.Nodup->(∀x∈l,(ring x).Nodup)->(corners l ring).Nodup:=by
  intro l;induction l with
  | nil=>exact λ_ _=>Dl
  | cons a l f =>
   intro c d;rw[lq] at c;have e:corners (a::l) ring=((fY<|ring a).map λp=>(a,p.1,p.2))++corners l ring:=by rfl
   rw[e,lp];refine⟨?_,f c.2 λx hx=>d x (by simp[hx]),?_⟩
   ·have g:(fY<|ring a).Nodup:=by have:=d a (by simp);rw[<-yp (ring a)] at this;exact (hI.1 this).imp λb e=>b (by rw[e])
    refine hI.2 (g.imp λb e=>b ?_);simp_all
   grind [fx]
 exact key rooms C.gy C.nd
def count_map{c:Type}{l d:List c}(nd:l.Nodup)(f:d.Nodup){g:c->c}(inj:∀a∈l,∀b∈l,g a=g b->a=b)(h:∀b,b∈d ↔ ∃a∈l,g a=b)(p:c->Bool):d.countP p=l.countP λa=>p (g a):=by
 have pm:d.Perm (l.map g):=(pl f<|hI.2 (nd.imp_of_mem λj k i e=>i<|inj _ j _ k e)).2 λb=>by rw[h b,bg]
 rw[pm.countP_eq,ri];rfl
end
section
variable{α:Type}[DecidableEq α]{rooms walls:List α}{ring:α->List α}{lt:α->α->Bool}
noncomputable def ah(rooms:List α)(a:α):Bool:=bd<|a∈rooms
def canon(rooms:List α)(lt:α->α->Bool)(c:α×α×α):Bool:=(!ah rooms c.2.1||lt c.1 c.2.1)&&(!ah rooms c.2.2||lt c.1 c.2.2)
noncomputable def g3(c:α×α×α):α×α×α:=(c.2.1,c.2.2,c.1)
def zJ (h:g3 a=g3 b):a=b:=by grind [g3]
theorem FY:∀{l:List f},(∀a∈l,(p a=bi/\q a=bn/\s a=bn)\/(p a=bn/\q a=bi/\s a=bn)\/(p a=bn/\q a=bn/\s a=bi))->l.countP p+l.countP q+l.countP s=l.length
 | [],_=>rfl
 | a::l,h=>by have:=FY (l:=l) λb g=>h b (by simp[g]);simp[me];rcases h a ⋯ with⟨c,d,e⟩|⟨c,d,e⟩|⟨c,d,e⟩<;>rw[c,d,e]<;>simp<;>lia
theorem E6:∀{l:List c},(∀a∈l,(p a=bi/\q a=bn)\/(p a=bn/\q a=bi))->l.countP p+l.countP q=l.length
 | [],_=>rfl
 | a::l,h=>by have:=E6 (l:=l) λb f=>h b (by simp[f]);simp[me];rcases h a ⋯ with⟨d,e⟩|⟨d,e⟩<;>rw[d,e]<;>simp<;>lia
theorem Order.jZ(O:Order lt)(h:lt a b=bi):lt b a=bn:=by
 cases e:lt b a with
 | false=>rfl
 | true=>have:=O.tr a b a h e;rw[O.fw] at this;cases this
def fy.apart(C:fy rooms walls ring)(hx:x∈rooms)(h:aE (ring x) n m):x≠n/\x≠m/\n≠m:=by have:=h.mem;exact⟨λe=>C.fw x hx<|e ▸ this.1,λe=>C.fw x hx<|e ▸ this.2,h.ne (C.nd x hx)<|C.len x hx⟩
def o5 (p q:b->Bool)(l:List b):(l.filter p).countP q=l.countP λa=>p a&&q a:=by simp[List.countP_filter,Yn]
def fy.least(C:fy rooms walls ring)(O:Order lt):3*(corners rooms ring).countP (canon rooms lt)=az (λx=>(ring x).countP (ah rooms)) rooms+2*az (λx=>(ring x).countP λy=>!ah rooms y) rooms+(corners rooms ring).countP λc=>!ah rooms c.2.1&&!ah rooms c.2.2:=by
 have k:=kQ C;generalize o:corners rooms ring=cs at *;have mem:∀{x n m:α},(x,n,m)∈cs ↔ x∈rooms/\aE (ring x) n m:=λ{x n m}=>by rw[<-o];exact fx
 have I:∀p:α->Bool,(cs.countP λc=>p c.2.1)=az (λx=>(ring x).countP p) rooms:=λp=>by rw[<-o];delta corners;rw[zS];refine cS λx _=>?_;rw[ri];have:=congrArg (aa' p)<|yp<|ring x;rwa[ri] at this
 have D:∀p:α->Bool,(cs.countP λc=>p c.2.2)=az (λx=>(ring x).countP p) rooms:=λp=>by rw[<-o];delta corners;rw[zS];refine cS λx _=>?_;rw[ri];have:=congrArg (aa' p)<|NI<|ring x;simp only[ri,(Mw<|ring x).countP_eq] at this;exact this
 have J:=gI (λc:α×α×α=>ah rooms c.2.1) (λc=>ah rooms c.2.2) cs;have F:=gI (λc:α×α×α=>!ah rooms c.2.2) (λc=>ah rooms c.2.1) cs;rw[I (ah rooms)] at J;rw[D (λy=>!ah rooms y)] at F;have K:(cs.countP λc=>ah rooms c.2.2&&ah rooms c.2.1)=cs.countP λc=>ah rooms c.2.1&&ah rooms c.2.2:=by congr 1;funext c;exact Yn _ _
 have L:(cs.countP λc=>!ah rooms c.2.2&&ah rooms c.2.1)=cs.countP λc=>ah rooms c.2.1&&!ah rooms c.2.2:=by congr 1;funext c;exact Yn _ _
 have M:(cs.countP λc=>!ah rooms c.2.2&&!ah rooms c.2.1)=cs.countP λc=>!ah rooms c.2.1&&!ah rooms c.2.2:=by congr 1;funext c;exact Yn _ _
 simp only[L,M] at F;have k1:=gI (canon rooms lt) (λc=>ah rooms c.2.1) cs;have N:=gI (λc=>canon rooms lt c&&ah rooms c.2.1) (λc=>ah rooms c.2.2) cs;have P:=gI (λc=>canon rooms lt c&&!ah rooms c.2.1) (λc=>ah rooms c.2.2) cs;have Q:(cs.countP λa=>canon rooms lt a&&ah rooms a.2.1&&ah rooms a.2.2)=cs.countP λa=>(ah rooms a.2.1&&ah rooms a.2.2)&&(lt a.1 a.2.1&&lt a.1 a.2.2):=by congr 1;funext c;delta canon;cases ah rooms c.2.1<;>cases ah rooms c.2.2<;>simp
 have R:(cs.countP λa=>canon rooms lt a&&ah rooms a.2.1&&!ah rooms a.2.2)=cs.countP λa=>(ah rooms a.2.1&&!ah rooms a.2.2)&&lt a.1 a.2.1:=by congr 1;funext c;delta canon;cases ah rooms c.2.1<;>cases ah rooms c.2.2<;>simp
 have S:(cs.countP λa=>canon rooms lt a&&!ah rooms a.2.1&&ah rooms a.2.2)=cs.countP λa=>(!ah rooms a.2.1&&ah rooms a.2.2)&&lt a.1 a.2.2:=by congr 1;funext c;delta canon;cases ah rooms c.2.1<;>cases ah rooms c.2.2<;>simp
 have T:(cs.countP λa=>canon rooms lt a&&!ah rooms a.2.1&&!ah rooms a.2.2)=cs.countP λa=>!ah rooms a.2.1&&!ah rooms a.2.2:=by congr 1;funext c;delta canon;cases ah rooms c.2.1<;>cases ah rooms c.2.2<;>simp
 simp only[Q,R] at N;simp only[S,T] at P;have S3:3*(cs.countP λa=>(ah rooms a.2.1&&ah rooms a.2.2)&&(lt a.1 a.2.1&&lt a.1 a.2.2))=cs.countP λc=>ah rooms c.2.1&&ah rooms c.2.2:=by
  have i:(cs.filter λc=>ah rooms c.2.1&&ah rooms c.2.2).Nodup:=nE n5 k;have j:∀{x n m:α},(x,n,m)∈cs.filter (λc=>ah rooms c.2.1&&ah rooms c.2.2) ↔ (x∈rooms/\aE (ring x) n m)/\n∈rooms/\m∈rooms:=λ{x n m}=>by rw[f',mem];dsimp only[ah];simp
  have r:∀b,b∈cs.filter (λc=>ah rooms c.2.1&&ah rooms c.2.2) ↔ ∃a∈cs.filter (λc=>ah rooms c.2.1&&ah rooms c.2.2),g3 a=b:=by
   rintro⟨x,n,m⟩;constructor
   ·intro h;obtain⟨⟨hx,s⟩,d,f⟩:=j.1 h;exact⟨(m,x,n),j.2 ⟨⟨f,C.gP x hx n m s f⟩,hx,d⟩,ρ⟩
   rintro⟨⟨U,V,W⟩,h,e⟩;cases e;obtain⟨⟨hx,s⟩,d,f⟩:=j.1 h;exact j.2 ⟨⟨d,C.gU _ hx _ _ s d⟩,f,hx⟩
  have t:=count_map i i (λa _ b _ h=>zJ h) r λa=>lt a.1 a.2.1&&lt a.1 a.2.2;have X:=count_map i i (λa _ b _ h=>zJ h) r λa=>lt (g3 a).1 (g3 a).2.1&&lt (g3 a).1 (g3 a).2.2
  have z:=FY (p:=λa=>lt a.1 a.2.1&&lt a.1 a.2.2) (q:=λa=>lt (g3 a).1 (g3 a).2.1&&lt (g3 a).1 (g3 a).2.2) (s:=λa=>lt (g3<|g3 a).1 (g3<|g3 a).2.1&&lt (g3<|g3 a).1 (g3<|g3 a).2.2) (by
   rintro⟨x,n,m⟩ h;obtain⟨⟨hx,s⟩,d,f⟩:=j.1 h;obtain⟨A,Y,Z⟩:=C.apart hx s;show ((lt x n&&lt x m)=bi/\(lt n m&&lt n x)=bn/\(lt m x&&lt m n)=bn)\/((lt x n&&lt x m)=bn/\(lt n m&&lt n x)=bi/\(lt m x&&lt m n)=bn)\/((lt x n&&lt x m)=bn/\(lt n m&&lt n x)=bn/\(lt m x&&lt m n)=bi);rcases O.cR x n A with g|g<;>rcases O.cR x m Y with u|u<;>rcases O.cR n m Z with v|v<;>have q1:=O.jZ g<;>have G:=O.jZ u<;>have H:=O.jZ v<;>simp[g,u,v,q1,G,H]
   ·have:=O.tr x n m g v;rw[G] at this;cases this
   have:=O.tr n x m g u;rw[H] at this;cases this)
  simp only[<-X,<-t] at z;rw[<-tu] at z;rw[o5] at z;lia
 have S2:(cs.countP λa=>(ah rooms a.2.1&&!ah rooms a.2.2)&&lt a.1 a.2.1)+(cs.countP λa=>(!ah rooms a.2.1&&ah rooms a.2.2)&&lt a.1 a.2.2)=cs.countP λc=>ah rooms c.2.1&&!ah rooms c.2.2:=by
  have i:(cs.filter λc=>ah rooms c.2.1&&!ah rooms c.2.2).Nodup:=nE n5 k;have B:(cs.filter λc=>!ah rooms c.2.1&&ah rooms c.2.2).Nodup:=nE n5 k;have j:∀{x n m:α},(x,n,m)∈cs.filter (λc=>ah rooms c.2.1&&!ah rooms c.2.2) ↔ (x∈rooms/\aE (ring x) n m)/\n∈rooms/\m∉rooms:=λ{x n m}=>by rw[f',mem];dsimp only[ah];simp
  have w:∀{x n m:α},(x,n,m)∈cs.filter (λc=>!ah rooms c.2.1&&ah rooms c.2.2) ↔ (x∈rooms/\aE (ring x) n m)/\n∉rooms/\m∈rooms:=λ{x n m}=>by rw[f',mem];dsimp only[ah];simp
  have r:∀b,b∈cs.filter (λc=>!ah rooms c.2.1&&ah rooms c.2.2) ↔ ∃a∈cs.filter (λc=>ah rooms c.2.1&&!ah rooms c.2.2),g3 a=b:=by
   rintro⟨x,n,m⟩;constructor
   ·intro h;obtain⟨⟨hx,s⟩,d,f⟩:=w.1 h;exact⟨(m,x,n),j.2 ⟨⟨f,C.gP x hx n m s f⟩,hx,d⟩,ρ⟩
   rintro⟨⟨U,V,W⟩,h,e⟩;cases e;obtain⟨⟨hx,s⟩,d,f⟩:=j.1 h;exact w.2 ⟨⟨d,C.gU _ hx _ _ s d⟩,f,hx⟩
  have t:=count_map i B (λa _ b _ h=>zJ h) r λa=>lt a.1 a.2.2;simp[o5] at t;rw[t,<-o5,<-o5,tu (l:=cs)];apply E6;rintro⟨x,n,m⟩ h;obtain⟨⟨hx,s⟩,d,f⟩:=j.1 h;obtain⟨A,_,_⟩:=C.apart hx s;show (lt x n=bi/\lt n x=bn)\/(lt x n=bn/\lt n x=bi);rcases O.cR x n A with g|g
  ·exact ι ⟨g,O.jZ g⟩
  exact τ ⟨O.jZ g,g⟩
 lia
def je:canon rooms lt (x,n,m)=bi ↔ (n∈rooms->lt x n=bi)/\(m∈rooms->lt x m=bi):=by dsimp only[canon,ah];by_cases a:n∈rooms<;>by_cases b:m∈rooms<;>simp[a,b]
def QH (h:[a,b].Perm [c,d]):(a=c/\b=d)\/(a=d/\b=c):=by
 have e:a=c\/a=d:=by simpa using h.mem_iff.1 (show a∈[a,b] by simp)
 rcases e with rfl|rfl
 ·simp_all
 exact τ ⟨ρ,by simpa using (h.trans<|abl _ _ _).cons_inv⟩
def fy.threes(C:fy rooms walls ring)(O:Order lt){A:Type}{key:α×α×α->A}(B:∀c∈corners rooms ring,∀c'∈corners rooms ring,key c=key c' ↔ [c.1,c.2.1,c.2.2].Perm [c'.1,c'.2.1,c'.2.2]){D:List A}(nd:D.Nodup)(Q:∀k,k∈D ↔ ∃c∈corners rooms ring,key c=k) :
  D.length=(corners rooms ring).countP (canon rooms lt):=by
 have E:=kQ C;have inj:∀c∈(corners rooms ring).filter (canon rooms lt),∀c'∈(corners rooms ring).filter (canon rooms lt),key c=key c'->c=c':=by
  rintro⟨x,n,m⟩ h ⟨g,w,y⟩ h' e;obtain⟨b,hl⟩:=f'.1 h;obtain⟨u,F⟩:=f'.1 h';have p:=(B _ b _ u).1 e;obtain⟨hx,s⟩:=fx.1 b;obtain⟨i,s'⟩:=fx.1 u;obtain⟨G,H⟩:=je.1 hl;obtain⟨I,J⟩:=je.1 F;have ex:x=g:=by
   have R:x=g\/x=w\/x=y:=by simpa using p.mem_iff.1 (show x∈[x,n,m] by simp)
   have K:g=x\/g=n\/g=m:=by simpa using p.mem_iff.2 (show g∈[g,w,y] by simp)
   rcases R with h|h|h
   ·exact h
   ·have q:=I<|h ▸ hx;rw[<-h] at q;rcases K with k|k|k
    ·exact k.symm
    ·have:=G<|k ▸ i;rw[<-k,O.jZ q] at this;contradiction
    have:=H<|k ▸ i;rw[<-k,O.jZ q] at this;contradiction
   have q:=J<|h ▸ hx;rw[<-h] at q;rcases K with k|k|k
   ·exact k.symm
   ·have:=G<|k ▸ i;rw[<-k,O.jZ q] at this;contradiction
   have:=H<|k ▸ i;rw[<-k,O.jZ q] at this;contradiction
  subst ex;rcases QH (show [n,m].Perm [w,y] from p.cons_inv) with⟨rfl,rfl⟩|⟨rfl,rfl⟩
  ·rfl
  exact (s.asymm (C.nd x hx) (C.len x hx) s').elim
 have pm:D.Perm (((corners rooms ring).filter (canon rooms lt)).map key):=(pl nd<|hI.2 ((nE n5 E).imp_of_mem λS T L e=>L<|inj _ S _ T e)).2 λk=>by
  rw[Q k,bg];constructor
  ·rintro⟨⟨x,n,m⟩,b,rfl⟩;obtain⟨hx,s⟩:=fx.1 b;obtain⟨M,N,U⟩:=C.apart hx s;have put:∀c',c'∈corners rooms ring->canon rooms lt c'=bi->[c'.1,c'.2.1,c'.2.2].Perm [x,n,m]->∃a∈(corners rooms ring).filter (canon rooms lt),key a=key (x,n,m):=λc' P V W=>⟨c',f'.2 ⟨P,V⟩,(B _ P _ b).2 W⟩;have pn:=XD (l₁:=[n,m]) (l₂:=[x]);have l:=XD (l₁:=[m]) (l₂:=[x,n]);have v:n∈rooms->(n,m,x)∈corners rooms ring:=λh=>fx.2 ⟨h,C.gU x hx n m s h⟩;have o:m∈rooms->(m,x,n)∈corners rooms ring:=λh=>fx.2 ⟨h,C.gP x hx n m s h⟩;by_cases r:n∈rooms<;>by_cases j:m∈rooms
   ·rcases O.cR x n M with d|d
    ·rcases O.cR x m N with f|f
     ·exact put _ b (je.2 ⟨λ_=>d,λ_=>f⟩)<|List.Perm.refl _
     exact put _ (o j) (je.2 ⟨λ_=>f,λ_=>O.tr m x n f d⟩) l
    rcases O.cR n m U with t|t
    ·exact put _ (v r) (je.2 ⟨λ_=>t,λ_=>d⟩) pn
    exact put _ (o j) (je.2 ⟨λ_=>O.tr m n x t d,λ_=>t⟩) l
   ·rcases O.cR x n M with d|d
    ·exact put _ b (je.2 ⟨λ_=>d,λz=>absurd z j⟩)<|List.Perm.refl _
    exact put _ (v r) (je.2 ⟨λz=>absurd z j,λ_=>d⟩) pn
   ·rcases O.cR x m N with f|f
    ·exact put _ b (je.2 ⟨λz=>absurd z r,λ_=>f⟩)<|List.Perm.refl _
    exact put _ (o j) (je.2 ⟨λ_=>f,λz=>absurd z r⟩) l
   exact put _ b (je.2 ⟨λz=>absurd z r,λz=>absurd z j⟩)<|List.Perm.refl _
  rintro⟨c,b,rfl⟩;exact⟨c,(f'.1 b).1,ρ⟩
 rw[pm.length_eq,bt,tu]
end
section
variable{bx:Ob}{os:List Ob}{x n m:Ob}
def aB.closed(T:aB bx os)(a:bx.ok)(nd:(os++walls bx).Nodup):fy os (walls bx) (bq<|os++walls bx) where
 gy:=(lp.1 nd).1
 cE:=λx hx hw=>(lp.1 nd).2.2 x hx x hw ρ
 nd:=λx hx=>T.Qh a hx nd
 len:=λx hx=>by have n1:=ql.2 (T.chain a hx nd (k:=1) (by decide)).1;have n2:=ql.2 (T.chain a hx nd (k:=2) (by decide)).1;have n3:=ql.2 (T.chain a hx nd (k:=3) (by decide)).1;unfold bq;simp only[eW,eW];lia
 mem:=λx hx y c=>ee.1 (iB.1 c).1
 fw:=λx hx h=>by obtain⟨_,k,d,u⟩:=iB.1 h;have ox:=kz k<|Nb.ok T a<|ι hx;simp_all [Up]
 sym:=λx hx y c h=>by
  obtain⟨_,k,d,u⟩:=iB.1 h;have e:=HL x y k;have b:on (k+2) y x=bi:=by rw[<-e];exact decide_eq_true u
  refine iB.2 ⟨ee.2<|ι hx,?_⟩;by_cases f:k+2<4
  ·exact⟨k+2,f,of_decide_eq_true b⟩
  have g:on (k+2) y x=on (k-2) y x:=by rw[show k+2=(k-2)+4 from by omega];exact E5 _ _ _
  rw[g] at b;exact⟨k-2,⋯,of_decide_eq_true b⟩
 gU:=λx hx n m s i=>(T.Hu a hx nd s).1 i
 gP:=λx hx n m s j=>(T.Hu a hx nd s).2 j
def G8(N)(x)(p):(bq N x).countP p=bX λk=>N.countP λz=>on k x z&&p z:=by
 have e:∀k,(bI N x k).countP p=N.countP λz=>on k x z&&p z:=λk=>by delta bI;simp only[(gn _ _).countP_eq,o5];rfl
 dsimp only[bq,bX];simp only[pq,e,e,e,e]
def aB.GC(T:aB bx os)(hp:bx.ok)(nd:(os++walls bx).Nodup)(x:Ob):(bq (os++walls bx) x).countP (ah os)=bX (λk=>os.countP<|on k x)/\((bq (os++walls bx) x).countP λy=>!ah os y)=bX λk=>(walls bx).countP (on k x):=by
 have cE:∀w∈walls bx,w∉os:=λw hw c=>(lp.1 nd).2.2 w c w hw ρ;have a:∀k,((os++walls bx).countP λz=>on k x z&&ah os z)=os.countP (on k x):=λk=>by
  rw[pq];have d:(os.countP λz=>on k x z&&ah os z)=os.countP (on k x):=ub λz hz=>by simp_all [ah]
  have e2:((walls bx).countP λz=>on k x z&&ah os z)=0:=by rw[Ts];intro w hw e;rw[gj] at e;exact cE w hw<|of_decide_eq_true e.2
  lia
 have b:∀k,((os++walls bx).countP λz=>on k x z&&!ah os z)=(walls bx).countP (on k x):=λk=>by
  have d:((walls bx).countP λz=>on k x z&&!ah os z)=(walls bx).countP (on k x):=by simp_all [ah,ub]
  simp_all [ah]
 simp only[G8];exact⟨congrArg bX (funext a),congrArg bX<|funext b⟩
def aB.sums(T:aB bx os)(a:bx.ok)(nd:(os++walls bx).Nodup):az (λx=>(bq (os++walls bx) x).countP (ah os)) os+2*az (λx=>(bq (os++walls bx) x).countP λy=>!ah os y) os=6*os.length+2:=by rw[cS (g:=λx=>bX λk=>os.countP<|on k x) λx _=>(T.GC a nd x).1,cS (g:=λx=>bX λk=>(walls bx).countP (on k x)) λx _=>(T.GC a nd x).2];exact T.ties a nd
def wC(a:m∈walls bx)(i:bx.l<=x.l/\x.l<x.r/\x.r<=bx.r/\bx.b<=x.b/\x.b<x.t/\x.t<=bx.t)(u:Up (ae<|ae x) (ae<|ae m)):m=wS bx/\x.b=bx.b:=by
 obtain⟨d,i2,e,i4,i5,i6⟩:=i;obtain⟨c,f,g⟩:=u;simp[walls] at a;rcases a with rfl|rfl|rfl|rfl
 ·exact absurd (aam.1 (show -(bx.t+1)=-x.b from c)) (by lia)
 ·exact absurd (YJ.1<|f)<|Zg.2 e
 ·exact⟨ρ,(aam.1<|c).symm⟩
 exact absurd (YJ.1<|g)<|Zg.2 d
def uJ(a:m∈walls bx)(i:bx.l<=x.l/\x.l<x.r/\x.r<=bx.r/\bx.b<=x.b/\x.b<x.t/\x.t<=bx.t)(u:Up (ae<|ae<|ae x) (ae<|ae<|ae m)):m=wW bx/\x.l=bx.l:=by
 obtain⟨i1,i2,i3,i4,i5,i6⟩:=i;obtain⟨c,d,e⟩:=u;dsimp only[ae] at c d e;simp[walls] at a;rcases a with rfl|rfl|rfl|rfl<;>dsimp only[wN,wE,wS,wW] at c d e
 ·omega
 ·omega
 ·omega
 simp_all
def aB.ku(T:aB bx os)(u:bx.ok)(hx:x∈os)(i:n∈walls bx)(j:m∈walls bx):bQ x n m ↔ (n=wN bx/\m=wE bx/\x.t=bx.t/\x.r=bx.r)\/(n=wE bx/\m=wS bx/\x.r=bx.r/\x.b=bx.b)\/(n=wS bx/\m=wW bx/\x.b=bx.b/\x.l=bx.l)\/(n=wW bx/\m=wN bx/\x.l=bx.l/\x.t=bx.t):=by
 have h:=T.aK x hx;have ⟨s,v⟩:=u;constructor
 ·rintro⟨k,hk,f⟩;have w:k=0\/k=1\/k=2\/k=3:=⋯;rcases w with rfl|rfl|rfl|rfl
  ·rcases f with⟨un,g,e⟩|⟨un,o,g,em⟩
   ·rw[(kX i h un).1,(kX j h g).1] at e;exact absurd (e)<|Int.ne_of_gt s
   obtain⟨a,b⟩:=kX i h un;obtain⟨c,d⟩:=nB j h g;exact ι ⟨a,c,b,d⟩
  ·rcases f with⟨un,g,e⟩|⟨un,o,g,em⟩
   ·rw[(nB i h un).1,(nB j h g).1] at e;exact absurd (aam.1<|e)<|acU v
   obtain⟨a,b⟩:=nB i h un;obtain⟨c,d⟩:=wC j h g;exact τ<|ι ⟨a,c,b,d⟩
  ·rcases f with⟨un,g,e⟩|⟨un,o,g,em⟩
   ·rw[(wC i h un).1,(wC j h g).1] at e;exact absurd (aam.1<|e)<|acU s
   obtain⟨a,b⟩:=wC i h un;obtain⟨c,d⟩:=uJ j h g;exact τ<|τ<|ι ⟨a,c,b,d⟩
  rcases f with⟨un,g,e⟩|⟨un,o,g,em⟩
  ·rw[(uJ i h un).1,(uJ j h g).1] at e;dsimp only[aa,ae,wW] at e;lia
  obtain⟨a,b⟩:=uJ i h un;have g:Up (ae<|ae<|ae<|ae x) (ae<|ae<|ae<|ae m):=g;rw[jh,jh] at g;obtain⟨c,d⟩:=kX j h g;exact τ<|τ<|τ ⟨a,c,b,d⟩
 rintro (⟨rfl,rfl,p,q⟩|⟨rfl,rfl,p,q⟩|⟨rfl,rfl,p,q⟩|⟨rfl,rfl,p,q⟩)
 ·exact⟨0,⋯,τ (by dsimp only[Up,aa,ae,wN,wE];omega)⟩
 ·exact⟨1,⋯,τ (by dsimp only[Up,aa,ae,wS,wE];omega)⟩
 ·exact⟨2,⋯,τ (by dsimp only[Up,aa,ae,wS,wW];omega)⟩
 exact⟨3,⋯,τ (by dsimp only[Up,aa,ae,wN,wW];omega)⟩
end
section
variable{α:Type}[DecidableEq α]{rooms walls:List α}{ring:α->List α}{lt:α->α->Bool}
def FG{l d:List α}(nd:l.Nodup)(e:d.Nodup)(p:α->Bool):(l.countP λy=>bd (y∈d)&&p y)=d.countP λy=>bd (y∈l)&&p y:=by
 simp[tu];refine List.Perm.length_eq ((pl (nE n5 nd)<|nE n5 e).2 λy=>?_);simp;constructor
 ·rintro⟨a,b,c⟩;exact⟨b,a,c⟩
 simp_all
def fy.half(C:fy rooms walls ring)(O:Order lt):2*az (λx=>(ring x).countP λy=>ah rooms y&&lt x y) rooms=az (λx=>(ring x).countP (ah rooms)) rooms:=by
 have a:∀x∈rooms,((ring x).countP λy=>ah rooms y&&lt x y)=rooms.countP λy=>bd (y∈ring x)&&lt x y:=λx hx=>FG (C.nd x hx) C.gy<|lt x;have b:∀x∈rooms,(ring x).countP (ah rooms)=rooms.countP λy=>bd (y∈ring x):=λx hx=>by have:=FG (C.nd x hx) C.gy λ_=>true;simp only[acr] at this;exact this
 rw[cS a,cS b];have s:az (λx=>rooms.countP λy=>bd (y∈ring x)&&lt x y) rooms=az (λy=>rooms.countP λx=>bd (x∈ring y)&&lt x y) rooms:=by rw[vM λx y=>bd (y∈ring x)&&lt x y];refine cS λy d=>ub λx hx=>?_;have:(y∈ring x) ↔ (x∈ring y):=⟨λh=>C.sym x hx y d h,λh=>C.sym y d x hx h⟩;simp_all
 have t:az (λx=>rooms.countP λy=>bd<|y∈ring x) rooms=az (λx=>rooms.countP λy=>bd (y∈ring x)&&lt x y) rooms+az (λx=>rooms.countP λy=>bd (y∈ring x)&&lt y x) rooms:=by
  rw[<-jH];refine cS λx hx=>?_;simp only[gI (λy=>bd<|y∈ring x) (λy=>lt x y)]
  congr 1;refine ub λy d=>?_
  simp only[gj,decide_eq_true_eq,sj];constructor
  ·rintro⟨c,f⟩;refine⟨c,?_⟩;have ne:x≠y:=λe=>C.fw x hx (e ▸ c);rcases O.cR x y ne with h|h;simp_all;exact h
  rintro⟨c,f⟩;exact⟨c,O.jZ f⟩
 lia
end
section
variable{bx:Ob}{os:List Ob}{lt:Ob->Ob->Bool}{x y n m p w:Ob}
def aB.l7(T:aB bx os){p q:Int}(d:bx.l<=p)(e:p<bx.r)(f:bx.b<=q)(g:q<bx.t){P:Ob->Prop}(i:∀o,(bx.l<=o.l/\o.l<o.r/\o.r<=bx.r/\bx.b<=o.b/\o.b<o.t/\o.t<=bx.t)->(P o ↔ o.l<=p/\p<o.r/\o.b<=q/\q<o.t)):∃x∈os,∀y∈os,P y ↔ y=x:=by
 obtain⟨x,hx,k⟩:=T.hit p q d e f g;refine⟨x,hx,λy c=>?_⟩;rw[i y (T.aK y c)];constructor
 ·refine λh=>(T.ap y c x hx).resolve_right λa=>?_;grind [Apart]
 rintro rfl;exact k
def aB.Md(T:aB bx os)(d:bx.ok)(nd:(os++walls bx).Nodup):((corners os<|bq<|os++walls bx).countP λc=>!ah os c.2.1&&!ah os c.2.2)=4:=by
 have C:=T.closed d nd;have G:=d;unfold Ob.ok at G;obtain⟨L,z,H⟩:=T.l7 (p:=bx.r-1) (q:=bx.t-1) (P:=λx=>x.t=bx.t/\x.r=bx.r) (by lia) (by lia) (by lia) (by lia)<|λo i=>⋯;obtain⟨M,A,I⟩:=T.l7 (p:=bx.r-1) (q:=bx.b) (P:=λx=>x.r=bx.r/\x.b=bx.b) (by lia) (by lia) (by lia) ⋯ (λo i=>⋯);obtain⟨N,B,J⟩:=T.l7 (p:=bx.l) (q:=bx.b) (P:=λx=>x.b=bx.b/\x.l=bx.l) (by lia) ⋯ (by lia) ⋯ (λo i=>⋯);obtain⟨O,D,K⟩:=T.l7 (p:=bx.l) (q:=bx.t-1) (P:=λx=>x.l=bx.l/\x.t=bx.t) (by lia) ⋯ (by lia) (by lia) (λo i=>⋯);rw[tu];have Q:wN bx≠wE bx:=λe=>by have:=congrArg Ob.t e;simp only[wN,wE] at this;omega
 have R:wN bx≠wS bx:=λe=>by have:=congrArg Ob.b e;simp only[wN,wS] at this;omega
 have S:wN bx≠wW bx:=λe=>by have:=congrArg Ob.t e;simp only[wN,wW] at this;omega
 have U:wE bx≠wS bx:=λe=>by have:=congrArg Ob.b e;simp only[wE,wS] at this;omega
 have V:wE bx≠wW bx:=λe=>by have:=congrArg Ob.l e;simp only[wE,wW] at this;omega
 have W:wS bx≠wW bx:=λe=>by have:=congrArg Ob.b e;simp only[wS,wW] at this;omega
 have pm:((corners os<|bq<|os++walls bx).filter λc=>!ah os c.2.1&&!ah os c.2.2).Perm [(L,wN bx,wE bx),(M,wE bx,wS bx),(N,wS bx,wW bx),(O,wW bx,wN bx)]:=by
  refine (pl (nE n5<|kQ C) ?_).2 ?_
  ·simp only[lq,eS,fv,or_false,Zk,not_or,not_and];refine⟨⟨λ_ h=>absurd h Q,λ_ h=>absurd h R,λ_ h=>absurd h S⟩,⟨λ_ h=>absurd h U,λ_ h=>absurd h V⟩,λ_ h=>absurd h W,not_false,Dl⟩
  rintro⟨x,n,m⟩;have g:∀{o:Ob},o∈walls bx->o∉os:=λ{o} hw X=>(lp.1 nd).2.2 o X o hw ρ;rw[f',fx];simp only[ah,gj,sj,decide_eq_false_iff_not,eS,fv,or_false,Zk];constructor
  ·rintro⟨⟨hx,s⟩,Y,Z⟩;have E:n∈walls bx:=(C.mem x hx n s.mem.1).resolve_left Y;have F:m∈walls bx:=(C.mem x hx m s.mem.2).resolve_left Z;have f:=(T.ku d hx E F).1 ((T.dC d hx nd (τ E)<|τ F).1 s);rcases f with⟨a,b,c⟩|⟨a,b,c⟩|⟨a,b,c⟩|⟨a,b,c⟩
   ·exact ι ⟨(H x hx).1 c,a,b⟩
   ·exact τ<|ι ⟨(I x hx).1 c,a,b⟩
   ·exact τ<|τ<|ι ⟨(J x hx).1 c,a,b⟩
   exact τ<|τ<|τ ⟨(K x hx).1 c,a,b⟩
  have j:wN bx∈walls bx:=by simp[walls]
  have k:wE bx∈walls bx:=by simp[walls]
  have u:wS bx∈walls bx:=by simp[walls]
  have v:wW bx∈walls bx:=by simp[walls]
  rintro (⟨rfl,rfl,rfl⟩|⟨rfl,rfl,rfl⟩|⟨rfl,rfl,rfl⟩|⟨rfl,rfl,rfl⟩)
  ·exact⟨⟨z,(T.dC d z nd (τ j)<|τ k).2 ((T.ku d z j k).2 (ι ⟨ρ,ρ,(H _ z).2 ρ⟩))⟩,g j,g k⟩
  ·exact⟨⟨A,(T.dC d A nd (τ k)<|τ u).2 ((T.ku d A k u).2 (τ<|ι ⟨ρ,ρ,(I _ A).2 ρ⟩))⟩,g k,g u⟩
  ·exact⟨⟨B,(T.dC d B nd (τ u)<|τ v).2 ((T.ku d B u v).2 (τ<|τ<|ι ⟨ρ,ρ,(J _ B).2 ρ⟩))⟩,g u,g v⟩
  exact⟨⟨D,(T.dC d D nd (τ v)<|τ j).2 ((T.ku d D v j).2 (τ<|τ<|τ ⟨ρ,ρ,(K _ D).2 ρ⟩))⟩,g v,g j⟩
 rw[pm.length_eq];rfl
inductive Row {α:Type}(rooms:List α) (ring:α->List α) (wall:α):α->List α->Prop
 | stop {a:α}:a∉rooms->Row rooms ring wall a []
 | go {a p:α}{l:List α}:a∈rooms->aE (ring a) p wall->Row rooms ring wall p l->Row rooms ring wall a (a::l)
def aB.before(T:aB bx os)(d:bx.ok)(hx:x∈os)(nd:(os++walls bx).Nodup)(ht:x.t=bx.t):∃p,Nb bx os p/\bQ x p (wN bx)/\((p∈os/\p.t=bx.t/\p.r=x.l)\/(p=wW bx/\x.l=bx.l)):=by
 have ix:=T.aK x hx;have c:=d;unfold Ob.ok at c;by_cases h:x.l=bx.l
 ·refine⟨wW bx,τ (by simp[walls]),⟨3,⋯,τ ?_⟩,τ ⟨ρ,h⟩⟩;simp_all [Up,aa,ae,wN,wW]
 -- the room to the left,at the top
 obtain⟨o,b,k1,k2,k3,k4⟩:=T.hit (x.l-1) (x.t-1) (by lia) (by omega) (by omega) (by lia);have io:=T.aK o b;have ap:Apart o x:=by
  rcases T.ap o b x hx with e|a
  ·lia
  exact a
 unfold Apart at ap;refine⟨o,ι b,⟨3,⋯,τ ?_⟩,⋯⟩;simp only[Up,aa,ae,wN];lia
theorem aB.Mb(T:aB bx os)(i:bx.ok)(nd:(os++walls bx).Nodup):∀(k:Nat) (x:Ob),x∈os->x.t=bx.t->(x.l-bx.l).toNat<=k->∃l,Row os (bq<|os++walls bx) (wN bx) x l/\l.Nodup/\∀y,y∈l ↔ y∈os/\y.t=bx.t/\y.r<=x.r:=by
 intro k;induction k with
 | zero =>
  intro x hx o B;have C:=T.aK x hx;obtain⟨p,g,f,h⟩:=T.before i hx nd o;have u:Nb bx os (wN bx):=τ (by simp[walls]);have s:=(T.dC i hx nd g u).2 f;rcases h with⟨d,j,v⟩|⟨d,j⟩
  ·have:=T.aK p d;omega
  subst d;refine⟨[x],.go hx s (.stop λz=>(lp.1 nd).2.2 _ z _ (by simp[walls]) ρ),aaP _ _,λy=>?_⟩;rw[n6];constructor;simp_all;rintro⟨A,v,h4⟩;have D:=T.aK y A;refine (T.ap y A x hx).resolve_right λa=>?_;grind [Apart]
 | succ k E =>
  intro x hx o B;have C:=T.aK x hx;obtain⟨p,g,f,h⟩:=T.before i hx nd o;have u:Nb bx os (wN bx):=τ (by simp[walls]);have s:=(T.dC i hx nd g u).2 f;rcases h with⟨d,j,v⟩|⟨d,j⟩
  ·have ip:=T.aK p d;obtain⟨l,r,n,e⟩:=E p d j (by omega);refine⟨x::l,.go hx s r,lq.2 ⟨λz=>?_,n⟩,λy=>?_⟩
   ·have:=((e x).1 z).2.2;omega
   rw[eS,e y];constructor;lia;rintro⟨a,b,c⟩;have D:=T.aK y a;rcases T.ap y a x hx with e|q
   ·exact ι e
   grind [Apart]
  simp_all
noncomputable def reach [DecidableEq a](rooms walls:List a)(ring:a->List a):Nat->List a
 | 0=>walls
 | k+1=>walls++rooms.filter λx=>(ring x).any λy=>bd<|y∈reach rooms walls ring k
theorem aB.reached(T:aB bx os)(c:bx.ok)(nd:(os++walls bx).Nodup):∀(k:Nat) (x:Ob),x∈os->(os.countP λy=>bd<|x.t<y.t)<k->x∈reach os (walls bx) (bq<|os++walls bx) k:=by
 intro k;induction k with
 | zero=>simp
 | succ k d =>
  intro x hx h;obtain⟨ne,_⟩:=T.chain c hx nd (k:=0) ⋯;obtain⟨y,e⟩:=aaJ _ ne;obtain⟨b,u⟩:=gK.1 e;have f:=iB.2 ⟨b,0,by decide,u⟩;refine ee.2<|τ<|f'.2 ⟨hx,n4.2 ⟨y,f,decide_eq_true ?_⟩⟩;rcases ee.1 b with a|hw
  ·refine d y a<|l4 ?_<|Nat.le_of_lt_succ h;have iy:=T.aK y a;have hxy:x.t<y.t:=by have u:Up x y:=u;simp_all [Up]
   have sp:=gI (λz:Ob=>bd<|x.t<z.t) (λz=>bd<|y.t<z.t) os;have e1:(os.countP λz=>bd (x.t<z.t)&&bd (y.t<z.t))=os.countP λz=>bd (y.t<z.t):=ub λz _=>by lia
   have e2:0<os.countP λz=>bd (x.t<z.t)&&!bd (y.t<z.t):=List.countP_pos_iff.2 ⟨y,a,by simp;omega⟩;omega
  cases k with
  | zero=>exact hw
  | succ k=>exact ee.2<|ι hw
def aB.all_reached(T:aB bx os)(a:bx.ok)(nd:(os++walls bx).Nodup)(hx:x∈os):x∈reach os (walls bx) (bq<|os++walls bx) os.length:=by apply T.reached a nd os.length x hx;have b:=Zh (p:=λy:Ob=>bd<|x.t<y.t) (l:=os);refine Nat.lt_of_le_of_ne b λe=>?_;have:=List.countP_eq_length.1 e x hx;simp at this
inductive j7 (bx:Ob) (os:List Ob) (w:Ob):Ob->List Ob->Prop
 | stop {a:Ob}:a∉os->j7 bx os w a []
 | go {a p:Ob}{l:List Ob}:a∈os->Nb bx os p->bQ a p w->j7 bx os w p l->j7 bx os w a (a::l)
theorem Row.toF(T:aB bx os)(b:bx.ok)(nd:(os++walls bx).Nodup)(h:Row os (bq<|os++walls bx) w a l):j7 bx os w a l:=by
 induction h with
 | stop h=>exact .stop h
 | @go a p l h s _ c=>refine .go h (ee.1 (iB.1 s.mem.1).1) ?_ c;obtain⟨i,d,e⟩:=s;exact T.Ad b h nd d e
theorem j7.Oi(T:aB bx os)(b:bx.ok)(nd:(os++walls bx).Nodup)(hw:Nb bx os w)(h:j7 bx os w a l):Row os (bq<|os++walls bx) w a l:=by
 induction h with
 | stop h=>exact .stop h
 | @go a p l h c f _ d=>exact .go h ((T.dC b h nd c hw).2 f) d
theorem j7.back(k)(i:k<4)(h:j7 (aa k bx) (os.map<|aa k) (aa k w) (aa k a) l):∃c,l=c.map (aa k)/\j7 bx os w a c:=by
 generalize d:aa k a=j at h;induction h generalizing a with
 | stop h=>subst d;exact⟨[],ρ,.stop λz=>h<|bg.2 ⟨a,z,ρ⟩⟩
 | @go j o l h q f _ s=>subst d;obtain⟨p,rfl⟩:=xG k i o;obtain⟨c,e,r⟩:=s ρ;obtain⟨b,g,t⟩:=bg.1 h;rw[i9 k t] at g;refine⟨a::c,by rw[e];rfl,.go g ((rT k).1 q) (bQ.ups k f) r⟩
def wall(bx:Ob)(k:Nat):Ob:=if k=0 then wN bx else if k=1 then wE bx else if k=2 then wS bx else wW bx
def gJ(bx)(k):wall bx k∈walls bx:=by
 delta wall;split
 ·simp[walls]
 split
 ·simp[walls]
 split<;>simp[walls]
def Bh (hk:k<4):aa k (wall bx k)=wN (aa k bx):=by
 have a:k=0\/k=1\/k=2\/k=3:=by lia
 rcases a with rfl|rfl|rfl|rfl
 ·rfl
 rfl
 ·have e:wall bx 2=wS bx:=ρ;rw[e];exact mC (by rfl) (by rfl) (by rfl) (by simp only[aa,ae,wN,wS];lia)
 have e:wall bx 3=wW bx:=ρ;rw[e];exact mC (by rfl) (by rfl) (by rfl) (by simp only[aa,ae,wN,wW]<;>lia)
def o4(bx:Ob)(k:Nat)(x:Ob):Prop:=(aa k x).t=(aa k bx).t
def aB.N9(nd:(os++walls bx).Nodup)(T:aB bx os)(g:bx.ok)(k:Nat):(os.map (aa k)++walls (aa k bx)).Nodup:=by
 rw[lp] at nd ⊢;refine⟨vX k nd.1,?_,?_⟩
 ·have d:=lO k g;unfold Ob.ok at d;generalize aa k bx=c at d;simp only[walls,lq,eS,fv,or_false,not_or];refine⟨⟨λe=>?_,λe=>?_,λe=>?_⟩,⟨λe=>?_,λe=>?_⟩,λe=>?_,not_false,Dl⟩
  ·have:=congrArg Ob.t e;simp only[wN,wE] at this;omega
  ·have:=congrArg Ob.b e;simp only[wN,wS] at this;omega
  ·have:=congrArg Ob.t e;simp only[wN,wW] at this;omega
  ·have:=congrArg Ob.b e;simp only[wE,wS] at this;omega
  ·have:=congrArg Ob.l e;simp only[wE,wW] at this;omega
  have:=congrArg Ob.b e;simp only[wS,wW] at this;lia
 intro a h b f e;subst e;have i:=(T.turns k).aK a h;have f:a=wN (aa k bx)\/a=wE (aa k bx)\/a=wS (aa k bx)\/a=wW (aa k bx):=by simpa[walls] using f
 rcases f with rfl|rfl|rfl|rfl<;>simp only[wN,wE,wS,wW] at i<;>omega
def aB.row(T:aB bx os)(o:bx.ok)(nd:(os++walls bx).Nodup)(t:k<4)(hx:x∈os)(v:o4 bx k x)(h2:(aa k x).r=(aa k bx).r):∃l,Row os (bq<|os++walls bx) (wall bx k) x l/\l.Nodup/\∀y,y∈l ↔ y∈os/\o4 bx k y:=by
 have q:=T.turns k;have h:=lO k o;have j:=aB.N9 nd T o k;obtain⟨l,r,n,e⟩:=q.Mb h j _ (aa k x) (bg.2 ⟨x,hx,ρ⟩) v<|fj _;have f:=Row.toF q h j r;rw[<-Bh t] at f;obtain⟨A,rfl,B⟩:=j7.back k t f;refine⟨A,B.Oi T o nd<|τ<|gJ bx k,(hI.1 n).imp λu e=>u (by rw[e]),λy=>?_⟩;constructor
 ·intro g;obtain⟨a,b,c⟩:=(e<|aa k y).1 (bg.2 ⟨y,g,ρ⟩);obtain⟨z,d,s⟩:=bg.1 a;rw[i9 k s] at d;exact⟨d,b⟩
 rintro⟨g,hw⟩;have i:=q.aK _<|bg.2 ⟨y,g,ρ⟩;obtain⟨z,d,s⟩:=bg.1 ((e<|aa k y).2 ⟨bg.2 ⟨y,g,ρ⟩,hw,⋯⟩);rwa[i9 k s] at d
def aB.tied(T:aB bx os)(f:bx.ok)(b:y∈os)(c:k<4):wall bx k∈bq (os++walls bx) y ↔ o4 bx k y:=by
 have i:=T.aK y b;rw[iB];delta o4;have g:k=0\/k=1\/k=2\/k=3:=by lia
 constructor
 ·rintro⟨_,j,hj,u⟩;have a:j=0\/j=1\/j=2\/j=3:=by lia
  delta Up at u;rcases g with rfl|rfl|rfl|rfl
  ·have e:wall bx 0=wN bx:=ρ;rw[e] at u;rcases a with rfl|rfl|rfl|rfl<;>simp only[aa,ae,wN] at u ⊢<;>omega
  ·have e:wall bx 1=wE bx:=ρ;rw[e] at u;rcases a with rfl|rfl|rfl|rfl<;>simp only[aa,ae,wE] at u ⊢<;>omega
  ·have e:wall bx 2=wS bx:=ρ;rw[e] at u;rcases a with rfl|rfl|rfl|rfl<;>simp only[aa,ae,wS] at u ⊢<;>omega
  have e:wall bx 3=wW bx:=ρ;rw[e] at u;rcases a with rfl|rfl|rfl|rfl<;>simp only[aa,ae,wW] at u ⊢<;>omega
 intro h;refine⟨ee.2<|τ<|gJ bx k,k,c,?_⟩;rw[Bh c];have i':=(T.turns k).aK _ (bg.2 ⟨y,b,ρ⟩);dsimp only[Up,wN];lia
def aB.first(T:aB bx os)(c:bx.ok)(nd:(os++walls bx).Nodup)(hk:k<4):∃x∈os,o4 bx k x/\(aa k x).r=(aa k bx).r/\∀y∈os,aE (bq (os++walls bx) y) (wall bx k) (wall bx<|(k+1)%4) ↔ y=x:=by
 have g:=c;unfold Ob.ok at g;have key:∀y∈os,∀P:Prop,(bQ y (wall bx k) (wall bx<|(k+1)%4) ↔ P)->(aE (bq (os++walls bx) y) (wall bx k) (wall bx<|(k+1)%4) ↔ P):=λy a P h=>by rwa[T.dC c a nd (τ<|gJ bx k) (τ<|gJ bx _)]
 have K:wN bx≠wE bx:=λe=>by have:=congrArg Ob.t e;grind [wN,wE]
 have L:wN bx≠wS bx:=λe=>by have:=congrArg Ob.b e;simp only[wN,wS] at this;omega
 have nW:wN bx≠wW bx:=λe=>by have:=congrArg Ob.t e;simp only[wN,wW] at this;lia
 have j:wE bx≠wS bx:=λe=>by have:=congrArg Ob.b e;simp only[wE,wS] at this;lia
 have M:wE bx≠wW bx:=λe=>by have:=congrArg Ob.l e;simp only[wE,wW] at this;omega
 have N:wS bx≠wW bx:=λe=>by have:=congrArg Ob.b e;simp only[wS,wW] at this;lia
 have s:wN bx∈walls bx:=by simp[walls]
 have u:wE bx∈walls bx:=by simp[walls]
 have v:wS bx∈walls bx:=by simp[walls]
 have z:wW bx∈walls bx:=by simp[walls]
 unfold o4;have O:k=0\/k=1\/k=2\/k=3:=by lia
 rcases O with rfl|rfl|rfl|rfl
 ·obtain⟨A,B,C⟩:=T.l7 (p:=bx.r-1) (q:=bx.t-1) (P:=λx=>x.t=bx.t/\x.r=bx.r) (by lia) (by lia) (by lia) (by lia) (λo i=>⋯);have q:=(C A B).2 ρ;refine⟨A,B,by simp only[aa];lia,by simp only[aa];lia,λy a=>key y a _<|(T.ku c a s u).trans ⟨λh=>?_,λh=>ι ⟨ρ,ρ,(C y a).2 h⟩⟩⟩;simp_all
 ·obtain⟨D,E,d⟩:=T.l7 (p:=bx.r-1) (q:=bx.b) (P:=λx=>x.r=bx.r/\x.b=bx.b) (by lia) (by lia) (by lia) (by omega) (λo i=>⋯);have q:=(d D E).2 ρ;refine⟨D,E,by simp only[aa,ae];lia,by simp only[aa,ae];lia,λy a=>key y a _<|(T.ku c a u v).trans ⟨λh=>?_,λh=>τ<|ι ⟨ρ,ρ,(d y a).2 h⟩⟩⟩;rcases h with⟨h,_⟩|⟨_,_,h⟩|⟨h,_⟩|⟨h,_⟩
  ·cases K h.symm
  ·exact (d y a).1 h
  ·cases j h
  cases M h
 ·obtain⟨F,G,f⟩:=T.l7 (p:=bx.l) (q:=bx.b) (P:=λx=>x.b=bx.b/\x.l=bx.l) (by lia) (by omega) (by lia) (by omega) (λo i=>⋯);have q:=(f F G).2 ρ;refine⟨F,G,by simp only[aa,ae];lia,by simp only[aa,ae];lia,λy a=>key y a _<|(T.ku c a v z).trans ⟨λh=>?_,λh=>τ<|τ<|ι ⟨ρ,ρ,(f y a).2 h⟩⟩⟩;rcases h with⟨h,_⟩|⟨h,_⟩|⟨_,_,h⟩|⟨h,_⟩
  ·cases L h.symm
  ·cases j h.symm
  ·exact (f y a).1 h
  cases N h
 obtain⟨H,I,J⟩:=T.l7 (p:=bx.l) (q:=bx.t-1) (P:=λx=>x.l=bx.l/\x.t=bx.t) (by lia) (by omega) (by lia) (by omega) (λo i=>by omega);have q:=(J H I).2 ρ;refine⟨H,I,by simp only[aa,ae];lia,by simp only[aa,ae];lia,λy a=>key y a _<|(T.ku c a z s).trans ⟨λh=>?_,λh=>τ<|τ<|τ ⟨ρ,ρ,(J y a).2 h⟩⟩⟩;simp_all
end
structure jK {α:Type} [DecidableEq α] (rooms:List α) (w:Nat->α) (ring:α->List α) (lt:α->α->Bool):Prop where
 C:fy rooms [w 0,w 1,w 2,w 3] ring
 oP:[w 0,w 1,w 2,w 3].Nodup
 ww:∀x∈rooms,∀j k,j<4->k<4->aE (ring x) (w j) (w k)->k=(j+1)%4
 row:∀k,k<4->∃x∈rooms,(∀y∈rooms,aE (ring y) (w k) (w<|(k+1)%4) ↔ y=x)/\∃l,Row rooms ring (w k) x l/\l.Nodup/\∀y,y∈l ↔ y∈rooms/\w k∈ring y
 all:∀x∈rooms,x∈reach rooms [w 0,w 1,w 2,w 3] ring rooms.length
 zo:(corners rooms ring).countP (canon rooms lt)+rooms.length=az (fun x=>(ring x).countP fun y=>!ah rooms y) rooms+az (fun x=>(ring x).countP fun y=>ah rooms y&&lt x y) rooms+1
section
variable{α:Type}[DecidableEq α]{rooms rooms' walls:List α}{w:Nat->α}{ring ring':α->List α}{lt:α->α->Bool}
def gd(l a:List α):Prop:=∃A B,l=A++B/\a=B++A
theorem gd.perm{l a:List α}(h:gd l a):a.Perm l:=by obtain⟨A,B,rfl,rfl⟩:=h;exact XD
def gd.symm (h:gd l a):gd a l:=by obtain⟨A,B,rfl,rfl⟩:=h;exact⟨B,A,ρ,ρ⟩
def gd.succ (h:gd l b)(s:aE l n m):aE b n m:=by
 obtain⟨A,B,rfl,rfl⟩:=h;obtain⟨i,c,a⟩:=s;have d:=(cm.1 c).1;rw[eW] at d a;unfold aE;rw[eW];have get:∀j,j<A.length+B.length->(B++A)[(j+B.length)%(B.length+A.length)]?=(A++B)[j]?:=λj f=>by
  by_cases g:j<A.length
  ·rw[hS (by omega),hE ⋯,hG g]
   congr 1;omega
  have e:(j+B.length)%(B.length+A.length)=j-A.length:=by rw[show j+B.length=(j-A.length)+(B.length+A.length) from by omega,Yc,hS (by omega)]
  rw[e,hG (by omega),hE (by omega)]
 refine⟨(i+B.length)%(B.length+A.length),by rw[get i d];exact c,?_⟩;have f:(i+1)%(A.length+B.length)<A.length+B.length:=Xx _ (by omega);rw[<-get _ f] at a;simp[<-a];congr 1;have k:((i+B.length)%(B.length+A.length)+1)%(B.length+A.length)=(i+B.length+1)%(B.length+A.length):=by rw[ac6,Nat.mod_mod,<-ac6]
 have o:((i+1)%(A.length+B.length)+B.length)%(B.length+A.length)=(i+1+B.length)%(B.length+A.length):=by simp[aa6]
 simp[o];congr 1
 lia
def gd.dC (h:gd l a):aE a n m ↔ aE l n m:=⟨h.symm.succ,h.succ⟩
theorem Dj (p:l.Perm b):az f l=az f b:=by
 induction p with
 | nil=>rfl
 | cons x _ c=>show f x+_=f x+_;rw[c]
 | swap x y l=>show f y+(f x+az f l)=f x+(f y+az f l);lia
 | trans _ _ d e=>rw[d,e]
def NV(p:rooms'.Perm rooms)(a:α):ah rooms' a=ah rooms a:=by exact decide_eq_decide.2 p.mem_iff
theorem jK.turn(h:jK rooms w ring lt)(p:rooms'.Perm rooms)(t:∀x∈rooms,gd (ring x)<|ring' x):jK rooms' w ring' lt:=by
 have mem:∀{x:α},x∈rooms' ↔ x∈rooms:=λ{x}=>p.mem_iff
 have u:fy rooms' [w 0,w 1,w 2,w 3] ring':={
  gy:=p.nodup_iff.2 h.C.gy
  cE:=λx hx=>h.C.cE x<|mem.1 hx
  nd:=λx hx=>(t x<|mem.1 hx).perm.nodup_iff.2 (h.C.nd x<|mem.1 hx)
  len:=λx hx=>by rw[(t x<|mem.1 hx).perm.length_eq];exact h.C.len x<|mem.1 hx
  mem:=λx hx y d=>(h.C.mem x (mem.1 hx) y<|(t x<|mem.1 hx).perm.mem_iff.1 d).imp mem.2 id
  fw:=λx hx d=>h.C.fw x (mem.1 hx)<|(t x<|mem.1 hx).perm.mem_iff.1 d
  sym:=λx hx y d v=>(t y<|mem.1 d).perm.mem_iff.2 (h.C.sym x (mem.1 hx) y (mem.1 d)<|(t x<|mem.1 hx).perm.mem_iff.1 v)
  gU:=λx hx n m s f=>(t n<|mem.1 f).succ (h.C.gU x (mem.1 hx) n m ((t x<|mem.1 hx).dC.1 s)<|mem.1 f)
  gP:=λx hx n m s A=>(t m<|mem.1 A).succ (h.C.gP x (mem.1 hx) n m ((t x<|mem.1 hx).dC.1 s)<|mem.1 A)}
 have row:∀{wl a:α}{l:List α},Row rooms ring wl a l->Row rooms' ring' wl a l:=λ{wl a l} r=>by
  induction r with
  | stop f=>exact .stop λz=>f (mem.1 z)
  | go B s _ i=>exact .go (mem.2 B) ((t _ B).succ s) i
 have D:∀k x,x∈reach rooms [w 0,w 1,w 2,w 3] ring k->x∈reach rooms' [w 0,w 1,w 2,w 3] ring' k:=by
  intro k;induction k with
  | zero=>exact λx hx=>hx
  | succ k i =>
   intro x hx;rcases ee.1 hx with hx|hx
   ·exact ee.2<|ι hx
   obtain⟨g,E⟩:=f'.1 hx;obtain⟨y,d,e⟩:=n4.1 E;refine ee.2<|τ<|f'.2 ⟨mem.2 g,n4.2 ⟨y,(t x g).perm.mem_iff.2 d,?_⟩⟩;exact decide_eq_true<|i y<|of_decide_eq_true e
 refine⟨u,h.oP,λx hx j k F o s=>h.ww x (mem.1 hx) j k F o<|(t x<|mem.1 hx).dC.1 s,λk o=>?_,λx hx=>?_,?_⟩
 ·obtain⟨x,hx,g,l,r,n,e⟩:=h.row k o;refine⟨x,mem.2 hx,λy d=>?_,l,row r,n,λy=>?_⟩
  ·rw[(t y<|mem.1 d).dC];exact g y<|mem.1 d
  rw[e y];constructor
  ·rintro⟨a,b⟩;exact⟨mem.2 a,(t y a).perm.mem_iff.2 b⟩
  rintro⟨a,b⟩;exact⟨mem.1 a,(t y<|mem.1 a).perm.mem_iff.1 b⟩
 ·rw[p.length_eq];exact D _ x<|h.all x<|mem.1 hx
 have q:ah rooms'=ah rooms:=funext<|NV p;have G:canon rooms' lt=canon rooms lt:=by unfold canon;rw[q]
 have c:(corners rooms' ring').countP (canon rooms' lt)=(corners rooms ring).countP (canon rooms lt):=by
  rw[G];refine List.Perm.countP_eq _<|(pl (kQ u)<|kQ h.C).2 ?_;rintro⟨x,n,m⟩;rw[fx,fx,mem];constructor
  ·rintro⟨a,b⟩;exact⟨a,(t x a).dC.1 b⟩
  rintro⟨a,b⟩;exact⟨a,(t x a).dC.2 b⟩
 have H:az (λx=>(ring' x).countP λy=>!ah rooms' y) rooms'=az (λx=>(ring x).countP λy=>!ah rooms y) rooms:=by rw[Dj p,q];exact cS λx hx=>(t x hx).perm.countP_eq _
 have I:az (λx=>(ring' x).countP λy=>ah rooms' y&&lt x y) rooms'=az (λx=>(ring x).countP λy=>ah rooms y&&lt x y) rooms:=by rw[Dj p,q];exact cS λx hx=>(t x hx).perm.countP_eq _
 simp only[c,H,I,p.length_eq];exact h.zo
end
section
variable{α β:Type}[DecidableEq α][DecidableEq β]
def aE.map (ν:α->β)(h:aE l n m):aE (l.map ν) (ν n) (ν m):=by obtain⟨i,a,h2⟩:=h;exact⟨i,by rw[c6,a];rfl,by simp_all⟩
def aE.of_map (h:aE (l.map ν) a b):∃n m,a=ν n/\b=ν m/\aE l n m:=by obtain⟨i,d,c⟩:=h;rw[c6] at d c;rw[bt] at c;obtain⟨n,e,rfl⟩:=gW.1 d;obtain⟨m,f,rfl⟩:=gW.1 c;exact⟨n,m,ρ,ρ,i,e,f⟩
end
section
variable{bx:Ob}{os:List Ob}{β:Type}[DecidableEq β]{ν:Ob->β}{ring':β->List β}{lt:β->β->Bool}
def kC(a:bx.ok)(hj:j<4)(hk:k<4)(h:wall bx j=wall bx k):j=k:=by
 delta Ob.ok at a;have c:j=0\/j=1\/j=2\/j=3:=by lia
 have d:k=0\/k=1\/k=2\/k=3:=by lia
 have e:wall bx 0=wN bx:=ρ;have f:wall bx 1=wE bx:=ρ;have g:wall bx 2=wS bx:=ρ;have i:wall bx 3=wW bx:=ρ;have m:=congrArg Ob.l h;have n:=congrArg Ob.b h;have o:=congrArg Ob.r h;have p:=congrArg Ob.t h;rcases c with rfl|rfl|rfl|rfl<;>rcases d with rfl|rfl|rfl|rfl<;>first|rfl|(exfalso;simp only[e,f,g,i,wN,wE,wS,wW] at m n o p;lia)
theorem aB.zC(T:aB bx os)(u:bx.ok)(nd:(os++walls bx).Nodup)(inj:∀a∈os++walls bx,∀b∈os++walls bx,ν a=ν b->a=b)(A:∀x∈os,ring' (ν x)=(bq (os++walls bx) x).map ν)(O:Order lt):jK (os.map ν) (λk=>ν<|wall bx k) ring' lt:=by
 have C:=T.closed u nd;have v:∀{a:Ob},a∈os->a∈os++walls bx:=λh=>ee.2<|ι h;have E:∀{a:Ob},a∈walls bx->a∈os++walls bx:=λh=>ee.2<|τ h;have o:∀{x y:Ob},y∈bq (os++walls bx) x->y∈os++walls bx:=λh=>(iB.1 h).1;have inR:∀{y:Ob},y∈os++walls bx->ν y∈os.map ν->y∈os:=λ{y} d h=>by obtain⟨z,H,e⟩:=bg.1 h;rwa[<-inj z (v H) y d e]
 have D:∀{x n m:Ob},x∈os->n∈os++walls bx->m∈os++walls bx->(aE (ring'<|ν x) (ν n) (ν m) ↔ aE (bq (os++walls bx) x) n m):=λ{x n m} hx I M=>by
  rw[A x hx];constructor
  ·intro h;obtain⟨S,U,V,W,s⟩:=h.of_map;simp only[inj n I S (o s.mem.1) V,inj m M U (o s.mem.2) W];exact s
  exact λs=>s.map ν
 have N:fy (os.map ν) ((walls bx).map ν) ring':={
  gy:=hI.2 (C.gy.imp_of_mem λi t B e=>B<|inj _ (v i) _ (v t) e)
  cE:=λa i hw=>by obtain⟨x,hx,rfl⟩:=bg.1 i;obtain⟨y,d,e⟩:=bg.1 hw;have:=inj y (E d) x (v hx) e;subst this;exact C.cE y hx d
  nd:=λa i=>by obtain⟨x,hx,rfl⟩:=bg.1 i;rw[A x hx];exact hI.2 ((C.nd x hx).imp_of_mem λi t B e=>B<|inj _ (o i) _ (o t) e)
  len:=λa i=>by obtain⟨x,hx,rfl⟩:=bg.1 i;rw[A x hx,bt];exact C.len x hx
  mem:=λa i b t=>by obtain⟨x,hx,rfl⟩:=bg.1 i;rw[A x hx] at t;obtain⟨y,d,rfl⟩:=bg.1 t;exact (C.mem x hx y d).imp (λh=>bg.2 ⟨y,h,ρ⟩) (λh=>bg.2 ⟨y,h,ρ⟩)
  fw:=λa i t=>by obtain⟨x,hx,rfl⟩:=bg.1 i;rw[A x hx] at t;obtain⟨y,d,e⟩:=bg.1 t;have:=inj y (o d) x (v hx) e;subst this;exact C.fw y hx d
  sym:=λa i b t h=>by obtain⟨x,hx,rfl⟩:=bg.1 i;obtain⟨y,d,rfl⟩:=bg.1 t;rw[A x hx] at h;obtain⟨z,H,e⟩:=bg.1 h;have:=inj z (o H) y (v d) e;subst this;rw[A z d];exact bg.2 ⟨x,C.sym x hx z d H,ρ⟩
  gU:=λa i b c s t=>by obtain⟨x,hx,rfl⟩:=bg.1 i;have s':=s;rw[A x hx] at s';obtain⟨n,m,rfl,rfl,F⟩:=s'.of_map;have I:=inR (o F.mem.1) t;exact (D I (o F.mem.2)<|v hx).2 (C.gU x hx n m F I)
  gP:=λa i b c s hc=>by obtain⟨x,hx,rfl⟩:=bg.1 i;have s':=s;rw[A x hx] at s';obtain⟨n,m,rfl,rfl,F⟩:=s'.of_map;have M:=inR (o F.mem.2) hc;exact (D M (v hx)<|o F.mem.1).2 (C.gP x hx n m F M)}
 have row:∀{w a:Ob}{l:List Ob},w∈walls bx->a∈os++walls bx->Row os (bq<|os++walls bx) w a l->Row (os.map ν) ring' (ν w) (ν a) (l.map ν):=λ{w a l} hw i r=>by
  induction r with
  | stop I=>exact .stop λz=>I (inR i z)
  | @go a p l h s _ J=>exact .go (bg.2 ⟨a,h,ρ⟩) ((D h (o s.mem.1)<|E hw).2 s)<|J<|o s.mem.1
 have X:∀k x,x∈os++walls bx->x∈reach os (walls bx) (bq<|os++walls bx) k->ν x∈reach (os.map ν) ((walls bx).map ν) ring' k:=by
  intro k;induction k with
  | zero=>exact λx _ hx=>bg.2 ⟨x,hx,ρ⟩
  | succ k J =>
   intro x hN hx;rcases ee.1 hx with hx|hx
   ·exact ee.2<|ι<|bg.2 ⟨x,hx,ρ⟩
   obtain⟨P,K⟩:=f'.1 hx;obtain⟨y,d,e⟩:=n4.1 K;refine ee.2<|τ<|f'.2 ⟨bg.2 ⟨x,P,ρ⟩,n4.2 ⟨ν y,?_,?_⟩⟩
   ·rw[A x P];exact bg.2 ⟨y,d,ρ⟩
   exact decide_eq_true<|J y (o d)<|of_decide_eq_true e
 have Q:∀{y:Ob},y∈os++walls bx->ah (os.map ν) (ν y)=ah os y:=λ{y} d=>by refine decide_eq_decide.2 ⟨inR d,λh=>bg.2 ⟨y,h,ρ⟩⟩
 have L:∀(f:β->Nat) (g:Ob->Nat),(∀x∈os,f (ν x)=g x)->az f (os.map ν)=az g os:=λf g h=>by
  have:∀l:List Ob,(∀x∈l,f (ν x)=g x)->az f (l.map ν)=az g l:=by
   intro l;induction l with
   | nil=>intro _;rfl
   | cons a l J=>intro h;show f (ν a)+az f (l.map ν)=g a+az g l;simp only[h a ⋯,J λx hx=>h x (by simp[hx])]
  exact this os h
 have Y:az (λx=>(ring' x).countP (ah<|os.map ν)) (os.map ν)=az (λx=>(bq (os++walls bx) x).countP (ah os)) os:=L _ _ λx hx=>by rw[A x hx,ri];exact ub λy d=>by show ah (os.map ν) (ν y)=bi ↔ _;rw[Q (o d)]
 have Z:az (λx=>(ring' x).countP λy=>!ah (os.map ν) y) (os.map ν)=az (λx=>(bq (os++walls bx) x).countP λy=>!ah os y) os:=L _ _ λx hx=>by rw[A x hx,ri];exact ub λy d=>by show (!ah (os.map ν) (ν y))=bi ↔ _;rw[Q (o d)]
 have a3:((corners (os.map ν) ring').countP λc=>!ah (os.map ν) c.2.1&&!ah (os.map ν) c.2.2)=4:=by
  rw[<-T.Md u nd];have pm:(corners (os.map ν) ring').Perm ((corners os<|bq<|os++walls bx).map λc=>(ν c.1,ν c.2.1,ν c.2.2)):=by
   refine (pl (kQ N)<|hI.2<|(kQ C).imp_of_mem ?_).2 ?_
   ·rintro⟨x,n,m⟩ ⟨x',S,U⟩ h h' B e;obtain⟨hx,s⟩:=fx.1 h;obtain⟨be,s'⟩:=fx.1 h';simp at e;exact B (by simp only[inj x (v hx) x' (v be) e.1,inj n (o s.mem.1) S (o s'.mem.1) e.2.1,inj m (o s.mem.2) U (o s'.mem.2) e.2.2])
   rintro⟨a,b,c⟩;rw[fx];constructor
   ·rintro⟨i,s⟩;obtain⟨x,hx,rfl⟩:=bg.1 i;rw[A x hx] at s;obtain⟨n,m,rfl,rfl,F⟩:=s.of_map;exact bg.2 ⟨(x,n,m),fx.2 ⟨hx,F⟩,ρ⟩
   intro h;obtain⟨⟨x,n,m⟩,K,e⟩:=bg.1 h;cases e;obtain⟨hx,s⟩:=fx.1 K;exact⟨bg.2 ⟨x,hx,ρ⟩,(D hx (o s.mem.1)<|o s.mem.2).2 s⟩
  rw[pm.countP_eq,ri];apply ub;rintro⟨x,n,m⟩ h;obtain⟨hx,s⟩:=fx.1 h;show (!ah (os.map ν) (ν n)&&!ah (os.map ν) (ν m))=bi ↔ _;rw[Q (o s.mem.1),Q<|o s.mem.2]
 have b1:=N.least O;have b2:=N.half O;have b3:=T.sums u nd;refine⟨N,?_,?_,?_,?_,?_⟩
 ·exact hI.2 ((lp.1 nd).2.1.imp_of_mem λi t B e=>B<|inj _ (E i) _ (E t) e)
 ·intro a i j k R G s;obtain⟨x,hx,rfl⟩:=bg.1 i;have f:=(T.ku u hx (gJ bx j)<|gJ bx k).1 ((T.dC u hx nd (τ<|gJ bx j)<|τ<|gJ bx k).1 ((D hx (E<|gJ bx j)<|E<|gJ bx k).1 s));have e0:wN bx=wall bx 0:=ρ;have V:wE bx=wall bx 1:=ρ;have W:wS bx=wall bx 2:=ρ;have e3:wW bx=wall bx 3:=ρ;rw[e0,V,W,e3] at f;rcases f with⟨p,q,_⟩|⟨p,q,_⟩|⟨p,q,_⟩|⟨p,q,_⟩
  ·rw[kC u R ⋯ p,kC u G ⋯ q]
  ·rw[kC u R ⋯ p,kC u G ⋯ q]
  ·rw[kC u R ⋯ p,kC u G ⋯ q]
  rw[kC u R ⋯ p,kC u G ⋯ q]
 ·intro k G;obtain⟨x,hx,P,K,h3⟩:=T.first u nd G;obtain⟨l,r,n,e⟩:=T.row u nd G hx P K;refine⟨ν x,bg.2 ⟨x,hx,ρ⟩,λb t=>?_,l.map ν,row (gJ bx k) (v hx) r,hI.2 (n.imp_of_mem λi t B e'=>B<|inj _ (v ((e _).1 i).1) _ (v ((e _).1 t).1) e'),λb=>?_⟩
  ·obtain⟨y,d,rfl⟩:=bg.1 t;rw[D d (E<|gJ bx k) (E<|gJ bx _),h3 y d];exact⟨λh=>by rw[h],λh=>inj y (v d) x (v hx) h⟩
  rw[bg];constructor
  ·rintro⟨y,d,rfl⟩;obtain⟨p,q⟩:=(e y).1 d;refine⟨bg.2 ⟨y,p,ρ⟩,?_⟩;rw[A y p];exact bg.2 ⟨_,(T.tied u p G).2 q,ρ⟩
  rintro⟨p,q⟩;obtain⟨y,d,rfl⟩:=bg.1 p;rw[A y d] at q;obtain⟨z,H,ez⟩:=bg.1 q;have:=inj z (o H) _ (E<|gJ bx k) ez;subst this;exact⟨y,(e y).2 ⟨d,(T.tied u d G).1 H⟩,ρ⟩
 ·intro a i;obtain⟨x,hx,rfl⟩:=bg.1 i;rw[bt];exact X _ x (v hx)<|T.all_reached u nd hx
 rw[Y,Z,a3] at b1;rw[Y] at b2;rw[Z,bt];lia
end
section
variable{α:Type}[DecidableEq α]{rooms rooms' walls:List α}{w:Nat->α}{ring ring':α->List α}{lt:α->α->Bool}{a b x q:α}
structure qX (l:List α) (n m q:α) (l':List α):Prop where
 perm:l'.Perm (q::l)
 succ:∀u v,aE l' u v ↔ (aE l u v/\¬(u=n/\v=m))\/(u=n/\v=q)\/(u=q/\v=m)
theorem GN{l:List α}{n m q:α}{i:Nat}(nd:l.Nodup)(hl:3<=l.length)(p:l[i]?=al n)(D:l[(i+1)%l.length]?=al m):qX l n m q (l.take (i+1)++q::l.drop (i+1)):=by
 have hi:=(cm.1 p).1;have len:(l.take (i+1)++q::l.drop (i+1)).length=l.length+1:=by simp;lia
 have o:∀j,j<=i->(l.take (i+1)++q::l.drop (i+1))[j]?=l[j]?:=fun j r=>by rw[hG (by rw[hY];omega),ZE,if_pos (by lia)]
 have y:(l.take (i+1)++q::l.drop (i+1))[i+1]?=al q:=by rw[hE (by rw[hY];lia),hY,acd (by lia),Zb];rfl
 have A:∀j,i<j->(l.take (i+1)++q::l.drop (i+1))[j+1]?=l[j]?:=fun j r=>by
  rw[hE (by rw[hY];omega),hY,acd (by lia),show j+1-(i+1)=(j-(i+1))+1 from by lia,aaR,xr]
  congr 1;omega
 refine⟨List.perm_middle.trans (by rw[W4]),fun u v=>?_⟩;generalize l.take (i+1)++q::l.drop (i+1)=g at *;have nx:∀j t,j≠i->j<l.length->t=(if j<i then j else j+1)->g[t]?=l[j]?/\g[(t+1)%g.length]?=l[(j+1)%l.length]?:=fun j t r hl' e=>by
  rw[len,e];by_cases c:j<i
  ·rw[if_pos c];exact⟨o j (by omega),by rw[hS (by lia),hS (by lia)];exact o _ (by omega)⟩
  rw[if_neg c];refine⟨A j (by lia),?_⟩;by_cases s:j+1=l.length
  ·rw[s,Dt,Dt];exact o 0 (by lia)
  rw[hS (by omega),hS (by omega)];exact A (j+1) (by omega)
 have E:g[(i+1)%g.length]?=al q:=by rw[len,hS (by lia)];exact y
 have F:g[(i+1+1)%g.length]?=al m:=by
  rw[len,<-D];by_cases s:i+1=l.length
  ·rw[s,Dt,Dt];exact o 0 (by lia)
  rw[hS (by omega),hS (by omega)];exact A (i+1) (by lia)
 constructor
 ·rintro⟨j,d,f⟩;have r:=(cm.1 d).1;by_cases J:j=i
  ·subst J;rw[o j (fj _),p] at d;rw[E] at f;exact τ<|ι ⟨(Option.some.inj d).symm,(Option.some.inj f).symm⟩
  by_cases s:j=i+1
  ·subst s;rw[y] at d;rw[F] at f;exact τ<|τ ⟨(Option.some.inj d).symm,(Option.some.inj f).symm⟩
  obtain⟨k,G,H,K⟩:∃k,k≠i/\k<l.length/\j=(if k<i then k else k+1):=by
   by_cases c:j<i
   ·exact⟨j,by omega,by lia,(if_pos c).symm⟩
   exact⟨j-1,by omega,by omega,by rw[if_neg (by omega)];lia⟩
  obtain⟨B,C⟩:=nx k j G H K;rw[B] at d;rw[C] at f;exact ι ⟨⟨k,d,f⟩,fun z=>G<|jf nd (by rw[d,z.1]) p⟩
 rintro (⟨⟨j,d,f⟩,h⟩|⟨rfl,rfl⟩|⟨rfl,rfl⟩)
 ·have r:=(cm.1 d).1;have I:j≠i:=fun z=>h (by subst z;rw[p] at d;rw[D] at f;exact⟨(Option.some.inj d).symm,(Option.some.inj f).symm⟩)
  obtain⟨B,C⟩:=nx j _ I r ρ;exact⟨_,B.trans d,C.trans f⟩
 ·exact⟨i,(o i<|fj _).trans p,E⟩
 exact⟨i+1,y,F⟩
structure iZ (rooms walls:List α) (ring:α->List α) (x a b q:α) (ring':α->List α):Prop where
 hx:x∈rooms
 ab:aE (ring x) a b
 qr:q∉rooms
 qw:q∉walls
 rq:ring' q=[x,a,b]
 rx:qX (ring x) a b q (ring' x)
 ra:a∈rooms->qX (ring a) b x q (ring' a)
 rb:b∈rooms->qX (ring b) x a q (ring' b)
 ro:∀y∈rooms,y≠x->y≠a->y≠b->ring' y=ring y
theorem IP{x a b u v:α}(h:x≠a/\x≠b/\a≠b):aE [x,a,b] u v ↔ (u=x/\v=a)\/(u=a/\v=b)\/(u=b/\v=x):=by
 constructor
 ·rintro⟨i,c,d⟩;have e:=(cm.1 c).1;simp only[gi,XA] at e;have:i=0\/i=1\/i=2:=by lia
  rcases this with rfl|rfl|rfl<;>simp at c d<;>simp[c,d]
 rintro (⟨rfl,rfl⟩|⟨rfl,rfl⟩|⟨rfl,rfl⟩)
 ·exact⟨0,ρ,ρ⟩
 ·exact⟨1,ρ,ρ⟩
 exact⟨2,ρ,by simp⟩
section
variable(C:fy rooms walls ring)(p:iZ rooms walls ring x a b q ring')
include C p
theorem iZ.facts:x≠a/\x≠b/\a≠b/\(a∈rooms\/a∈walls)/\(b∈rooms\/b∈walls)/\q≠x/\q≠a/\q≠b/\(a∈rooms->aE (ring a) b x)/\(b∈rooms->aE (ring b) x a):=by
 obtain⟨f,g,h⟩:=C.apart p.hx p.ab;have c:=C.mem x p.hx a p.ab.mem.1;have d:=C.mem x p.hx b p.ab.mem.2;refine⟨f,g,h,c,d,fun e=>p.qr<|e ▸ p.hx,?_,?_,C.gU x p.hx a b p.ab,C.gP x p.hx a b p.ab⟩
 ·rintro rfl;exact c.elim p.qr p.qw
 rintro rfl;exact d.elim p.qr p.qw
theorem iZ.succ{z u v:α}(c:z∈q::rooms):aE (ring' z) u v ↔ (z∈rooms/\aE (ring z) u v/\¬(z=x/\u=a/\v=b)/\¬(z=a/\u=b/\v=x)/\¬(z=b/\u=x/\v=a))\/(z=x/\u=a/\v=q)\/(z=x/\u=q/\v=b)\/(z=a/\a∈rooms/\u=b/\v=q)\/(z=a/\a∈rooms/\u=q/\v=x)\/(z=b/\b∈rooms/\u=x/\v=q)\/(z=b/\b∈rooms/\u=q/\v=a)\/(z=q/\u=x/\v=a)\/(z=q/\u=a/\v=b)\/(z=q/\u=b/\v=x):=by
 obtain⟨h,i,j,h4,h5,h6,h7,h8,h9,h10⟩:=p.facts C;rcases eS.1 c with rfl|c
 ·rw[p.rq,IP ⟨h,i,j⟩];have:=p.qr;simp_all
 have hq:z≠q:=fun e=>p.qr (e ▸ c);by_cases d:z=x
 ·subst d;rw[p.rx.succ];simp_all
 by_cases f:z=a
 ·subst f;rw[(p.ra c).succ];simp_all
 by_cases g:z=b
 ·subst g;rw[(p.rb c).succ];simp_all
 simp only[p.ro z c d f g];simp_all
theorem iZ.mem{z y:α}(c:z∈q::rooms):y∈ring' z ↔ (z∈rooms/\y∈ring z)\/(y=q/\z∈rooms/\(z=x\/z=a\/z=b))\/(z=q/\(y=x\/y=a\/y=b)):=by
 obtain⟨h1,h2,h3,h4,h5,h6,h7,h8,h9,h10⟩:=p.facts C;rcases eS.1 c with rfl|c
 ·rw[p.rq];have:=p.qr;simp only[eS,fv,or_false];simp_all
 have hq:z≠q:=fun e=>p.qr (e ▸ c);by_cases d:z=x
 ·subst d;rw[p.rx.perm.mem_iff,eS];grind
 by_cases f:z=a
 ·subst f;rw[(p.ra c).perm.mem_iff,eS];grind
 by_cases g:z=b
 ·subst g;rw[(p.rb c).perm.mem_iff,eS];grind
 rw[p.ro z c d f g];simp_all
theorem iZ.closed:fy (q::rooms) walls ring':=by
 obtain⟨h1,h2,h3,h4,h5,h6,r,t,h9,h10⟩:=p.facts C;have S:=fun z u v (f:z∈q::rooms)=>p.succ C (u:=u) (v:=v) f;have M:=fun z y (f:z∈q::rooms)=>p.mem C (y:=y) f;have A:∀z∈rooms,q∉ring z:=fun z f e=>(C.mem z f q e).elim p.qr p.qw;have I:∀z u v,z∈rooms->aE (ring z) u v->u≠q/\v≠q:=fun z u v f s=>⟨fun e=>A z f<|e ▸ s.mem.1,fun e=>A z f<|e ▸ s.mem.2⟩;have J:∀z∈rooms,ring' z=ring z\/(ring' z).Perm (q::ring z):=fun z f=>by
  by_cases B:z=x
  ·subst B;exact τ p.rx.perm
  by_cases K:z=a
  ·subst K;exact τ (p.ra f).perm
  by_cases L:z=b
  ·subst L;exact τ (p.rb f).perm
  exact ι<|p.ro z f B K L
 exact {
  gy:=lq.2 ⟨p.qr,C.gy⟩
  cE:=fun z f=>by
   rcases eS.1 f with rfl|f
   ·exact p.qw
   exact C.cE z f
  nd:=fun z f=>by
   rcases eS.1 f with rfl|f
   ·rw[p.rq];simp;simp_all
   rcases J z f with e|e
   ·rw[e];exact C.nd z f
   exact e.nodup_iff.2<|lq.2 ⟨A z f,C.nd z f⟩
  len:=fun z f=>by
   rcases eS.1 f with rfl|f
   ·rw[p.rq];simp
   have:=C.len z f;rcases J z f with e|e
   ·rw[e];exact this
   simp only[e.length_eq,gi];lia
  mem:=fun z f y k=>by have:=C.mem z;have:=p.hx;simp only[M z y f] at k;rw[eS];grind
  fw:=fun z f k=>by have:=C.fw z;have:=p.qr;rw[M z z f] at k;grind
  sym:=fun z f y k N=>by have m1:=p.ab.mem;have:=p.qr;have:=C.sym z;have:=C.sym y;have:=A z;have B:=C.sym x p.hx;have:=p.hx;rw[M z y f] at N;rw[M y z k];simp only[eS] at f k;grind
  gU:=fun z f n m s l=>by
   rw[S n m z l];have h:n≠q->n∈rooms:=(eS.1 l).resolve_left;rcases (S z n m f).1 s with⟨i,s,D,E,F⟩|⟨g,c,d⟩|⟨g,c,d⟩|⟨g,G,c,d⟩|⟨g,G,c,d⟩|⟨g,H,c,d⟩|⟨g,H,c,d⟩|⟨g,c,d⟩|⟨g,c,d⟩|⟨g,c,d⟩
   ·have l:=h (I z n m i s).1;exact ι ⟨l,C.gU z i n m s l,fun e=>F ⟨e.2.2,e.1,e.2.1⟩,fun e=>D ⟨e.2.2,e.1,e.2.1⟩,fun e=>E ⟨e.2.2,e.1,e.2.1⟩⟩
   ·exact τ<|τ<|τ<|τ<|ι ⟨c,c ▸ h (c ▸ r.symm),d,g⟩
   ·exact τ<|τ<|τ<|τ<|τ<|τ<|τ<|τ<|τ<|⟨c,d,g⟩
   ·exact τ<|τ<|τ<|τ<|τ<|τ<|ι ⟨c,c ▸ h (c ▸ t.symm),d,g⟩
   ·exact τ<|τ<|τ<|τ<|τ<|τ<|τ<|ι ⟨c,d,g⟩
   ·exact τ<|τ<|ι ⟨c,d,g⟩
   ·exact τ<|τ<|τ<|τ<|τ<|τ<|τ<|τ<|ι ⟨c,d,g⟩
   ·exact τ<|ι ⟨c,d,g⟩
   ·exact τ<|τ<|τ<|ι ⟨c,c ▸ h (c ▸ r.symm),d,g⟩
   exact τ<|τ<|τ<|τ<|τ<|ι ⟨c,c ▸ h (c ▸ t.symm),d,g⟩
  gP:=fun z f n m s o=>by
   rw[S m z n o];have j:m≠q->m∈rooms:=(eS.1 o).resolve_left;rcases (S z n m f).1 s with⟨i,s,D,E,F⟩|⟨g,c,d⟩|⟨g,c,d⟩|⟨g,G,c,d⟩|⟨g,G,c,d⟩|⟨g,H,c,d⟩|⟨g,H,c,d⟩|⟨g,c,d⟩|⟨g,c,d⟩|⟨g,c,d⟩
   ·have o:=j (I z n m i s).2;exact ι ⟨o,C.gP z i n m s o,fun e=>E ⟨e.2.1,e.2.2,e.1⟩,fun e=>F ⟨e.2.1,e.2.2,e.1⟩,fun e=>D ⟨e.2.1,e.2.2,e.1⟩⟩
   ·exact τ<|τ<|τ<|τ<|τ<|τ<|τ<|ι ⟨d,g,c⟩
   ·exact τ<|τ<|τ<|τ<|τ<|ι ⟨d,d ▸ j (d ▸ t.symm),g,c⟩
   ·exact τ<|τ<|τ<|τ<|τ<|τ<|τ<|τ<|ι ⟨d,g,c⟩
   ·exact τ<|ι ⟨d,g,c⟩
   ·exact τ<|τ<|τ<|τ<|τ<|τ<|τ<|τ<|τ<|⟨d,g,c⟩
   ·exact τ<|τ<|τ<|ι ⟨d,d ▸ j (d ▸ r.symm),g,c⟩
   ·exact τ<|τ<|τ<|τ<|ι ⟨d,d ▸ j (d ▸ r.symm),g,c⟩
   ·exact τ<|τ<|τ<|τ<|τ<|τ<|ι ⟨d,d ▸ j (d ▸ t.symm),g,c⟩
   exact τ (τ<|ι ⟨d,g,c⟩)}
end
theorem aE.before{l:List α}(nd:l.Nodup){p c v:α}(h:aE l p v)(h':aE l c v):p=c:=by
 obtain⟨i,d,m⟩:=h;obtain⟨j,g,n⟩:=h';have o:=(cm.1 d).1;have r:=(cm.1 g).1;have e:=jf nd m n;have f:∀k,k<l.length->(k+1)%l.length=if k+1=l.length then 0 else k+1:=fun k hk=>by
  split
  ·rename_i z;rw[z,Dt]
  exact hS (by lia)
 simp only[f i o,f j r] at e;have:i=j:=by split at e<;>split at e<;>lia
 subst this;exact Option.some.inj<|d.symm.trans g
theorem vx{W s p0:α}(nd:∀z∈rooms,(ring z).Nodup)(n:s∈rooms->aE (ring s) p0 W/\aE (ring' s) q W/\aE (ring' q) p0 W)(st:∀y∈rooms,∀p,aE (ring y) p W->p≠q/\(y≠s->aE (ring' y) p W)){y:α}{l:List α}(r:Row rooms ring W y l) :
  y≠q->l.Nodup->∃e,Row (q::rooms) ring' W y e/\(s∈l->e.Perm (q::l))/\(s∉l->e=l):=by
 induction r with
 | stop h=>exact fun i _=>⟨[],.stop (by simp[i,h]),fun z=>(by cases z),fun _=>rfl⟩
 | @go y p l d f _ o =>
  intro i t;obtain⟨j,k⟩:=lq.1 t;obtain⟨u,g,v,m⟩:=o (st y d p f).1 k;by_cases c:y=s
  ·subst c;obtain⟨A,B,C⟩:=n d;simp only[f.before (nd y d) A,m j] at g;exact⟨y::q::l,.go (eR _ d) B<|.go fk C g,fun _=>.swap _ _ _,fun z=>absurd fk z⟩
  refine⟨y::u,.go (eR _ d) ((st y d p f).2 c) g,fun z=>?_,fun z=>?_⟩
  ·exact ((v<|(eS.1 z).resolve_left (Ne.symm c)).cons y).trans (.swap _ _ _)
  rw[m fun h=>z<|eR _ h]
theorem Gp(C:fy rooms [w 0,w 1,w 2,w 3] ring)(oP:[w 0,w 1,w 2,w 3].Nodup)(ww:∀x∈rooms,∀j k,j<4->k<4->aE (ring x) (w j) (w k)->k=(j+1)%4)(f:∀k,k<4->∃x∈rooms,∀y∈rooms,aE (ring y) (w k) (w<|(k+1)%4) ↔ y=x) :
  ((corners rooms ring).countP fun c=>!ah rooms c.2.1&&!ah rooms c.2.2)=4:=by
 obtain⟨A,h,i⟩:=f 0 (by decide);obtain⟨B,l,m⟩:=f 1 (by decide);obtain⟨D,n,o⟩:=f 2 (by decide);obtain⟨E,p,r⟩:=f 3 (by decide)
 have cE:∀k,k<4->w k∉rooms:=fun k t F=>C.cE _ F (by
  have:k=0\/k=1\/k=2\/k=3:=by omega
  rcases this with rfl|rfl|rfl|rfl<;>simp)
 have at_:∀u,u∈[w 0,w 1,w 2,w 3]->∃k,k<4/\u=w k:=fun u g=>by
  simp only[eS,fv,or_false] at g;rcases g with rfl|rfl|rfl|rfl
  ·exact⟨0,by decide,rfl⟩
  ·exact⟨1,by decide,rfl⟩
  ·exact⟨2,by decide,rfl⟩
  exact⟨3,by decide,rfl⟩
 rw[tu];have:((corners rooms ring).filter fun c=>!ah rooms c.2.1&&!ah rooms c.2.2).Perm [(A,w 0,w 1),(B,w 1,w 2),(D,w 2,w 3),(E,w 3,w 0)]:=by
  refine (pl (nE n5<|kQ C) ?_).2 ?_
  ·simp only[lq,eS,fv,or_false,not_or] at oP;simp;grind
  rintro⟨z,u,v⟩;rw[f',fx];simp only[ah,gj,sj,decide_eq_false_iff_not,eS,fv,or_false,Zk];constructor
  ·rintro⟨⟨d,s⟩,g,G⟩;obtain⟨j,H,rfl⟩:=at_ u<|(C.mem z d u s.mem.1).resolve_left g;obtain⟨k,t,rfl⟩:=at_ v<|(C.mem z d v s.mem.2).resolve_left G;have e:=ww z d j k H t s;subst e;have:j=0\/j=1\/j=2\/j=3:=by omega
   rcases this with rfl|rfl|rfl|rfl
   ·exact ι ⟨(i z d).1 s,ρ,ρ⟩
   ·exact τ<|ι ⟨(m z d).1 s,ρ,ρ⟩
   ·exact τ<|τ<|ι ⟨(o z d).1 s,ρ,ρ⟩
   exact τ<|τ<|τ ⟨(r z d).1 s,ρ,ρ⟩
  rintro (⟨rfl,rfl,rfl⟩|⟨rfl,rfl,rfl⟩|⟨rfl,rfl,rfl⟩|⟨rfl,rfl,rfl⟩)
  ·exact⟨⟨h,(i _ h).2 ρ⟩,cE 0 (by decide),cE 1 (by decide)⟩
  ·exact⟨⟨l,(m _ l).2 ρ⟩,cE 1 (by decide),cE 2 (by decide)⟩
  ·exact⟨⟨n,(o _ n).2 ρ⟩,cE 2 (by decide),cE 3 (by decide)⟩
  exact⟨⟨p,(r _ p).2 ρ⟩,cE 3 (by decide),cE 0 (by decide)⟩
 rw[this.length_eq];rfl
section
variable(C:fy rooms walls ring)(p:iZ rooms walls ring x a b q ring')
include C p
theorem iZ.perm{z:α}(c:z∈rooms):(ring' z).Perm (if z=x\/z=a\/z=b then q::ring z else ring z):=by
 by_cases d:z=x
 ·subst d;rw[if_pos (by simp)];exact p.rx.perm
 by_cases e:z=a
 ·subst e;rw[if_pos (by simp)];exact (p.ra c).perm
 by_cases f:z=b
 ·subst f;rw[if_pos (by simp)];exact (p.rb c).perm
 rw[if_neg (by simp[d,e,f]),p.ro z c d e f]
theorem iZ.ND{z:α}(d:z∈rooms):(ring' z).countP (ah (q::rooms))=(ring z).countP (ah rooms)+(if (bd (z=x)||bd (z=a)||bd (z=b))=bi then 1 else 0):=by
 have f:q∉ring z:=fun e=>(C.mem z d q e).elim p.qr p.qw;have e:(ring z).countP (ah (q::rooms))=(ring z).countP (ah rooms):=by refine ub fun y g=>?_;have:y≠q:=fun e=>f<|e ▸ g;simp[ah,this]
 rw[(p.perm C d).countP_eq];by_cases c:z=x\/z=a\/z=b
 ·rw[if_pos c,if_pos (by simpa[or_assoc] using c),me,e,if_pos (by simp[ah])]
 rw[if_neg c,if_neg (by simpa[or_assoc] using c),e];rfl
theorem iZ.L4{z:α}(d:z∈rooms):((ring' z).countP fun y=>!ah (q::rooms) y)=(ring z).countP fun y=>!ah rooms y:=by
 have f:q∉ring z:=fun e=>(C.mem z d q e).elim p.qr p.qw;have e:((ring z).countP fun y=>!ah (q::rooms) y)=(ring z).countP fun y=>!ah rooms y:=by refine ub fun y g=>?_;have:y≠q:=fun e=>f<|e ▸ g;simp[ah,this]
 rw[(p.perm C d).countP_eq];by_cases c:z=x\/z=a\/z=b
 ·rw[if_pos c,me,e,if_neg (by simp[ah])];rfl
 rw[if_neg c,e]
theorem iZ.ties:(rooms.countP fun z=>bd (z=x)||bd (z=a)||bd (z=b))=1+(if a∈rooms then 1 else 0)+(if b∈rooms then 1 else 0):=by
 obtain⟨h1,h2,h3,_⟩:=p.facts C;have cnt:∀c,rooms.countP (fun z=>bd<|z=c)=if c∈rooms then 1 else 0:=fun c=>by
  split
  ·rename_i g;exact mS C.gy ⟨c,g,by simp⟩ fun u _ v _ d f=>by simp at d f;simp only[d,f]
  rename_i g;rw[Ts];intro z h;simp;exact fun e=>g<|e ▸ h
 have:=p.hx;have d:=gI (fun z=>bd (z=x)||bd (z=a)||bd (z=b)) (fun z=>bd<|z=x) rooms;have f:=gI (fun z=>(bd (z=x)||bd (z=a)||bd (z=b))&&!bd (z=x)) (fun z=>bd<|z=a) rooms;simp only[d,f];have i:(fun z=>(bd (z=x)||bd (z=a)||bd (z=b))&&bd (z=x))=fun z=>bd (z=x):=by funext z;simp_all
 have j:(fun z=>(bd (z=x)||bd (z=a)||bd (z=b))&&!bd (z=x)&&bd (z=a))=fun z=>bd (z=a):=by funext z;grind
 have g3:(fun z=>(bd (z=x)||bd (z=a)||bd (z=b))&&!bd (z=x)&&!bd (z=a))=fun z=>bd (z=b):=by funext z;grind
 simp only[i,j,g3,cnt,cnt,cnt,if_pos p.hx];lia
end
theorem Gq{C:fy rooms walls ring}:∀k y,y∈reach rooms walls ring k->y∈reach rooms walls ring (k+1)
 | 0,y,h=>ee.2 (ι h)
 | k+1,y,h=>by
  rcases ee.1 h with h|h
  ·exact ee.2<|ι h
  obtain⟨c,d⟩:=f'.1 h;obtain⟨z,f,e⟩:=n4.1 d;exact ee.2<|τ<|f'.2 ⟨c,n4.2 ⟨z,f,decide_eq_true<|Gq (C:=C) k z<|of_decide_eq_true e⟩⟩
theorem jK.put(h:jK rooms w ring lt)(p:iZ rooms [w 0,w 1,w 2,w 3] ring x a b q ring')(O:Order lt):jK (q::rooms) w ring' lt:=by
 have C:=h.C;have D:=p.closed C;obtain⟨h1,h2,h3,h4,h5,W,X,Y,h9,N⟩:=p.facts C;have J:∀k,k<4->w k∈[w 0,w 1,w 2,w 3]:=fun k f=>by
  have:k=0\/k=1\/k=2\/k=3:=by lia
  rcases this with rfl|rfl|rfl|rfl<;>simp
 have at_:∀u,u∈[w 0,w 1,w 2,w 3]->∃k,k<4/\u=w k:=fun u Z=>by
  simp only[eS,fv,or_false] at Z;rcases Z with rfl|rfl|rfl|rfl
  ·exact⟨0,by decide,rfl⟩
  ·exact⟨1,by decide,rfl⟩
  ·exact⟨2,by decide,rfl⟩
  exact⟨3,by decide,rfl⟩
 have E:∀k,k<4->w k∉rooms/\w k≠q/\w k≠x:=fun k f=>⟨fun z=>C.cE _ z<|J k f,fun z=>p.qw<|z ▸ J k f,fun z=>C.cE x p.hx<|z ▸ J k f⟩;have G:∀z u v,z∈rooms->aE (ring z) u v->u≠q/\v≠q:=fun z u v d s=>⟨fun e=>(C.mem z d u s.mem.1).elim (e ▸ p.qr) (e ▸ p.qw),fun e=>(C.mem z d v s.mem.2).elim (e ▸ p.qr) (e ▸ p.qw)⟩;have ww:∀z∈q::rooms,∀j k,j<4->k<4->aE (ring' z) (w j) (w k)->k=(j+1)%4:=fun z d j k H f s=>by have w1:=E j H;have w2:=E k f;have o1:=fun d=>h.ww z d j k H f;have o2:=h.ww x p.hx j k H f;have ab:=p.ab;rw[p.succ C d] at s;clear D E J at_ G;grind
 have row:∀k,k<4->∃y∈q::rooms,(∀z∈q::rooms,aE (ring' z) (w k) (w<|(k+1)%4) ↔ z=y)/\∃l,Row (q::rooms) ring' (w k) y l/\l.Nodup/\∀z,z∈l ↔ z∈q::rooms/\w k∈ring' z:=fun k f=>by
  obtain⟨o,A,P,l,K,n,r⟩:=h.row k f;have w1:=E k f;have w2:=E ((k+1)%4)<|Xx _ (by decide);have B:o≠q:=fun e=>p.qr<|e ▸ A;have lr:∀z∈l,z∈rooms:=fun z d=>((r z).1 d).1;have qr:=p.qr;have hx:=p.hx;have ab:=p.ab;have M:∀z∈q::rooms,w k∈ring' z ↔ (z∈rooms/\w k∈ring z)\/(z=q/\(w k=a\/w k=b)):=fun z d=>by rw[p.mem C d];simp_all
  have S:=fun z u v (d:z∈rooms)=>p.succ C (u:=u) (v:=v)<|eR q d;have Q:=fun u v=>p.succ C (u:=u) (v:=v)<|fk (a:=q) (l:=rooms);by_cases L:w k=a/\w ((k+1)%4)=b
  ·have ex:x=o:=(P x hx).1 (by simp only[L.1,L.2];exact ab);have m:b∉rooms:=L.2 ▸ w2.1;obtain⟨I,g,_,R⟩:=vx (ring':=ring') (s:=q) (p0:=q) C.nd (fun z=>absurd z qr) (fun y c u s=>⟨(G y u _ c s).1,fun _=>(S y u _ c).2 (ι ⟨c,s,by grind⟩)⟩) K B n;rw[R fun z=>qr<|lr q z] at g;refine⟨q,fk,fun z d=>?_,q::l,.go fk ((Q o _).2 (by simp_all)) g,lq.2 ⟨fun z=>qr<|lr q z,n⟩,fun z=>?_⟩
   ·rw[p.succ C d];have:=P z;simp_all
   have:=r z;have:=M z;grind
  have UB:w k=a->b∈rooms:=fun e=>h5.resolve_right fun z=>by obtain⟨j,H,ej⟩:=at_ b z;have:=h.ww x hx k j f H (by simp only[e,<-ej];exact ab);exact L ⟨e,by rw[<-this,<-ej]⟩
  have F:∀z∈q::rooms,aE (ring' z) (w k) (w<|(k+1)%4) ↔ z=o:=fun z d=>by rw[p.succ C d];have:=P z;grind
  by_cases T:w k=a
  ·have m:=UB T;obtain⟨I,g,i,_⟩:=vx (ring':=ring') (s:=b) (p0:=x) C.nd (fun _=>⟨T ▸ N m,(S b q _ m).2 (by simp_all),(Q x _).2 (by simp_all)⟩) (fun y c u s=>⟨(G y u _ c s).1,fun _=>(S y u _ c).2 (ι ⟨c,s,by grind⟩)⟩) K B n;have i:=i<|(r b).2 ⟨m,T ▸ (N m).mem.2⟩;refine⟨o,eR _ A,F,I,g,i.nodup_iff.2<|lq.2 ⟨fun z=>qr<|lr q z,n⟩,fun z=>?_⟩;rw[i.mem_iff];have:=r z;have:=M z;grind
  by_cases c2:w k=b
  ·obtain⟨I,g,i,_⟩:=vx (ring':=ring') (s:=x) (p0:=a) C.nd (fun _=>⟨c2 ▸ ab,(S x q _ hx).2 (by simp_all),(Q a _).2 (by simp_all)⟩) (fun y c u s=>⟨(G y u _ c s).1,fun _=>(S y u _ c).2 (ι ⟨c,s,by grind⟩)⟩) K B n;have i:=i<|(r x).2 ⟨hx,c2 ▸ ab.mem.2⟩;refine⟨o,eR _ A,F,I,g,i.nodup_iff.2<|lq.2 ⟨fun z=>qr<|lr q z,n⟩,fun z=>?_⟩;rw[i.mem_iff];have:=r z;have:=M z;grind
  obtain⟨I,g,_,R⟩:=vx (ring':=ring') (s:=q) (p0:=q) C.nd (fun z=>absurd z qr) (fun y c u s=>⟨(G y u _ c s).1,fun _=>(S y u _ c).2 (ι ⟨c,s,by simp_all⟩)⟩) K B n;rw[R fun z=>qr<|lr q z] at g;refine⟨o,eR _ A,F,l,g,n,fun z=>?_⟩;have:=r z;have:=M z;grind
 refine⟨D,h.oP,ww,row,fun y c=>?_,?_⟩
 ·have up:∀k y,y∈reach rooms [w 0,w 1,w 2,w 3] ring k->y∈reach (q::rooms) [w 0,w 1,w 2,w 3] ring' k:=by
   intro k;induction k with
   | zero=>exact fun y c=>c
   | succ k ih =>
    intro y c;rcases ee.1 c with c|c
    ·exact ee.2<|ι c
    obtain⟨g,i⟩:=f'.1 c;obtain⟨z,d,e⟩:=n4.1 i;exact ee.2<|τ<|f'.2 ⟨eR _ g,n4.2 ⟨z,(p.mem C<|eR _ g).2 (ι ⟨g,d⟩),decide_eq_true<|ih z<|of_decide_eq_true e⟩⟩
  simp only[gi];rcases eS.1 c with rfl|c
  ·exact ee.2<|τ<|f'.2 ⟨fk,n4.2 ⟨x,by rw[p.rq];exact fk,decide_eq_true<|up _ x<|h.all x p.hx⟩⟩
  exact Gq (C:=D) _ y<|up _ y<|h.all y c
 have f4:=Gp C h.oP h.ww fun k f=>by obtain⟨y,c,e,_⟩:=h.row k f;exact⟨y,c,e⟩
 have UE:=Gp D h.oP ww fun k f=>by obtain⟨y,c,e,_⟩:=row k f;exact⟨y,c,e⟩
 have l1:=C.least O;have U:=D.least O;have d1:=C.half O;have d2:=D.half O;have eu:=h.zo;have t:=p.ties C;have s1:az (fun z=>(ring' z).countP (ah (q::rooms))) rooms=az (fun z=>(ring z).countP (ah rooms)) rooms+rooms.countP fun z=>bd (z=x)||bd (z=a)||bd (z=b):=by simp only[cS fun z d=>p.ND C d,jH,uB]
 have s2:az (fun z=>(ring' z).countP fun y=>!ah (q::rooms) y) rooms=az (fun z=>(ring z).countP fun y=>!ah rooms y) rooms:=cS fun z d=>p.L4 C d;have u1:(ring' q).countP (ah (q::rooms))=1+(if a∈rooms then 1 else 0)+(if b∈rooms then 1 else 0):=by rw[p.rq];by_cases V:a∈rooms<;>by_cases m:b∈rooms<;>simp[me,ah,p.hx,W.symm,X.symm,Y.symm,V,m]
 have u2:((ring' q).countP fun y=>!ah (q::rooms) y)=(if a∈rooms then 0 else 1)+(if b∈rooms then 0 else 1):=by rw[p.rq];by_cases V:a∈rooms<;>by_cases m:b∈rooms<;>simp[me,ah,p.hx,W.symm,X.symm,Y.symm,V,m]
 have ea:(if a∈rooms then 0 else 1)+(if a∈rooms then 1 else 0)=1:=by split<;>rfl
 have eb:(if b∈rooms then 0 else 1)+(if b∈rooms then 1 else 0)=1:=by split<;>rfl
 simp only[f4] at l1;rw[UE] at U;change 3*_=((ring' q).countP (ah (q::rooms))+az (fun z=>(ring' z).countP (ah (q::rooms))) rooms)+2*(((ring' q).countP fun y=>!ah (q::rooms) y)+az (fun z=>(ring' z).countP fun y=>!ah (q::rooms) y) rooms)+4 at U;change 2*_=((ring' q).countP (ah (q::rooms))+az (fun z=>(ring' z).countP (ah (q::rooms))) rooms) at d2;show _=(((ring' q).countP fun y=>!ah (q::rooms) y)+az (fun z=>(ring' z).countP fun y=>!ah (q::rooms) y) rooms)+_+1;simp only[s1,u1,s2,u2,t] at U;simp only[s1,u1,t] at d2;simp only[s2,u2,gi];lia
end
def eI(os:List Ob):Prop:=∀p,(dQ os).count p<=3
def Of(a b):dQ (a++b)=dQ a++dQ b:=by exact Xj
theorem eI.perm{a b:List Ob}(h:eI a)(p:b.Perm a):eI b:=λq=>by have:(dQ b).Perm (dQ a):=p.flatMap_right _;rw[this.count_eq];exact h q
def eI.one(o)(h:o.ok):eI [o]:=λq=>by have e:dQ [o]=dc o:=sb _;rw[e];delta Ob.ok at h;simp only[dc,Ys,X'];split<;>split<;>split<;>split<;>lia
def eI.cut (h:eI (A++o::B))(k:∀p,(dc x).count p+(dc y).count p=(dc o).count p\/((dQ (A++o::B)).count p=0/\(dc x).count p+(dc y).count p<=3)):eI (A++[x]++B++[y]):=λp=>by have h:=h p;have k:=k p;have e:∀l:List Ob,∀o,dQ (o::l)=dc o++dQ l:=λl o=>rfl;simp only[Of,YO,e,show dQ []=[] from ρ,X'] at *;lia
def eI.OP (h:eI (A++o::B))(ok:o.ok)(f:∀z∈A++o::B,z.l≠c/\z.r≠c):eI (A++[⟨o.l,o.b,c,o.t⟩]++B++[⟨c,o.b,o.r,o.t⟩]):=by
 refine h.cut λp=>?_;by_cases e:p.1=c
 ·right;refine⟨ZH.2 λa=>?_,?_⟩
  ·obtain⟨z,d,a⟩:=zc.1 a;have:=f z d;simp only[dc,eS,Xv] at a;grind
  have:=f o ⋯;delta Ob.ok at ok;simp only[dc,Ys,X',beq_iff_eq,Xv];grind
 left;simp only[dc,Ys,X',beq_iff_eq];grind
def eI.Ja (h:eI (A++o::B))(ok:o.ok)(f:∀z∈A++o::B,z.b≠c/\z.t≠c):eI (A++[⟨o.l,o.b,o.r,c⟩]++B++[⟨o.l,c,o.r,o.t⟩]):=by
 refine h.cut λp=>?_;by_cases e:p.2=c
 ·right;refine⟨ZH.2 λa=>?_,?_⟩
  ·obtain⟨z,d,a⟩:=zc.1 a;have:=f z d;simp only[dc,eS,Xv] at a;grind
  have:=f o ⋯;delta Ob.ok at ok;simp only[dc,Ys,X',beq_iff_eq];grind
 left;simp only[dc,Ys,X',beq_iff_eq];grind
theorem eI.Ak{os:List Ob}(W:Int)(h:eI os):eI (os.map λo=>⟨W-o.r,o.b,W-o.l,o.t⟩):=λp=>by
 have c:∀l:List (Int×Int),(l.map λq=>(W-q.1,q.2)).count p=l.count (W-p.1,p.2):=λl=>by rw[ac7,ri,ac7];refine ub λq _=>?_;show ((W-q.1,q.2)==p)=bi ↔ _;rw[beq_iff_eq,beq_iff_eq,Xv,Xv];exact and_congr (show W-q.1=p.1 ↔ q.1=W-p.1 by omega)<|Iff.refl _
 have e:(dQ (os.map λo=>⟨W-o.r,o.b,W-o.l,o.t⟩)).count p=(dQ os).count (W-p.1,p.2):=by
  rw[<-c];clear h;induction os with
  | nil=>rfl
  | cons o os a=>show (dc _++dQ _).count p=((dc o++dQ os).map _).count p;rw[gf,YO,YO,a];exact congrArg (·+_)<|(XD (l₁:=[(W-o.r,o.b),(W-o.r,o.t)]) (l₂:=[(W-o.l,o.b),(W-o.l,o.t)])).count_eq p
 rw[e];exact h _
theorem Ov(o:Ob)(k:Nat):aa (k+4) o=aa k o:=by show ae (ae<|ae<|ae<|aa k o)=_;rw[jh]
theorem K8{x n m:Ob}(ox:x.l<x.r/\x.b<x.t)(on:n.l<n.r/\n.b<n.t)(om:m.l<m.r/\m.b<m.t)(un:Up x n){j:Nat}(d:j<4)(a:Up (aa j x) (aa j m)){i:Nat}(c:i<4)(t:Up (aa i n) (aa i m)):bQ x n m\/bQ x m n:=by
 have d:j=0\/j=1\/j=2\/j=3:=by omega
 have c:i=0\/i=1\/i=2\/i=3:=by omega
 rcases d with rfl|rfl|rfl|rfl
 ·rcases c with rfl|rfl|rfl|rfl
  ·simp only[aa,ae,Up] at un a t;omega
  ·refine ι ⟨0,by decide,ι ⟨un,a,?_⟩⟩;simp only[aa,ae,Up] at un a t ⊢;omega
  ·simp only[aa,ae,Up] at un a t;omega
  refine τ ⟨0,by decide,ι ⟨a,un,?_⟩⟩;simp only[aa,ae,Up] at un a t ⊢;omega
 ·refine ι ⟨0,by decide,τ ⟨un,?_,a,?_⟩⟩<;>rcases c with rfl|rfl|rfl|rfl<;>simp only[aa,ae,Up] at un a t ⊢<;>omega
 ·rcases c with rfl|rfl|rfl|rfl<;>simp only[aa,ae,Up] at un a t<;>omega
 refine τ ⟨3,by decide,τ ⟨a,?_,?_,?_⟩⟩
 ·rcases c with rfl|rfl|rfl|rfl<;>simp only[aa,ae,Up] at un a t ⊢<;>omega
 ·show Up (ae<|ae<|ae<|ae x) (ae<|ae<|ae<|ae n);rw[jh,jh];exact un
 rcases c with rfl|rfl|rfl|rfl<;>simp only[aa,ae,Up] at un a t ⊢<;>omega
theorem G0{k j:Nat}(hk:k<4)(hj:j<4):∃i,i<4/\∀o,aa i (aa k o)=aa j o:=by
 by_cases h:k<=j
 ·exact⟨j-k,by omega,fun o=>by rw[<-lh,show k+(j-k)=j by omega]⟩
 exact⟨j+4-k,by omega,fun o=>by rw[<-lh,show k+(j+4-k)=j+4 by omega,Ov]⟩
theorem three{x n m:Ob}(h:x.l<x.r/\x.b<x.t)(on:n.l<n.r/\n.b<n.t)(o:m.l<m.r/\m.b<m.t){k:Nat}(a:k<4)(un:Up (aa k x) (aa k n)){j:Nat}(p:j<4)(c:Up (aa j x) (aa j m)){i:Nat}(q:i<4)(t:Up (aa i n) (aa i m)):bQ x n m\/bQ x m n:=by obtain⟨j',d,e⟩:=G0 a p;obtain⟨i',f,g⟩:=G0 a q;rw[<-e x,<-e m] at c;rw[<-g n,<-g m] at t;exact (K8 (kz k h) (kz k on) (kz k o) un d c f t).imp (bQ.ups k) (bQ.ups k)
theorem Gk{a x:Ob}(ix:a.l<=x.l/\x.l<x.r/\x.r<=a.r/\a.b<=x.b/\x.b<x.t/\x.t<=a.t){i k:Nat}(c:i<4)(d:k<4)(u:Up (aa i x) (aa i<|wall a k)):i=k:=by
 have c:i=0\/i=1\/i=2\/i=3:=by omega
 have d:k=0\/k=1\/k=2\/k=3:=by omega
 rcases c with rfl|rfl|rfl|rfl<;>rcases d with rfl|rfl|rfl|rfl<;>first|rfl|(exfalso;simp[aa,ae,Up,wall,wN,wE,wS,wW] at u;omega)
theorem Dc{a x:Ob}(ix:a.l<=x.l/\x.l<x.r/\x.r<=a.r/\a.b<=x.b/\x.b<x.t/\x.t<=a.t){k:Nat}(e:k<4)(c:Up (aa k x) (aa k<|wall a k))(d:Up (aa ((k+1)%4) x) (aa ((k+1)%4)<|wall a<|(k+1)%4)):bQ x (wall a k) (wall a<|(k+1)%4):=by
 have e:k=0\/k=1\/k=2\/k=3:=by omega
 rcases e with rfl|rfl|rfl|rfl
 ·exact⟨0,by decide,τ ⟨c,by simp[aa,ae,wall,wN];omega,d,by simp[aa,ae,wall,wE];omega⟩⟩
 ·exact⟨1,by decide,τ ⟨c,by simp[aa,ae,wall,wE];omega,d,by simp[aa,ae,wall,wS];omega⟩⟩
 ·exact⟨2,by decide,τ ⟨c,by simp[aa,ae,wall,wS];omega,d,by simp[aa,ae,wall,wW];omega⟩⟩
 refine⟨3,by decide,τ ⟨c,by simp[aa,ae,wall,wW];omega,?_,by simp[aa,ae,wall,wN];omega⟩⟩;show Up (ae<|ae<|ae<|ae x) (ae<|ae<|ae<|ae<|wall a 0);rw[jh,jh];exact d
section
noncomputable def top(i:Nat):Stmt:=PySem.Challenge.pw_roomtouch_k03_threes_that_bar.main.body.getD i<|.Pass ⟨0,0,0,0⟩
local macro_rules | `(tactic| walk_at "sc")=>`(tactic| exact⟨rfl,rfl,rfl,by decide +kernel,rfl,by decide +kernel,by decide +kernel⟩)
abbrev Az:Stmt:=top 8
def CY:bK ["wall"] ["wall"] (aP Az):=by walk_at "sc"
abbrev yT:Stmt:=top 9
def Hm:bK ["thing"] ["thing"] (aP yT):=by walk_at "sc"
abbrev ym:Stmt:=top 10
def G1:bK ["thing"] ["thing"] (aP ym):=by walk_at "sc"
abbrev zP:Stmt:=top 11
def Bi:bK ["room","ring","names"] ["room","ring","names"] (aP zP):=by walk_at "sc"
abbrev yG:Stmt:=top 12
def Gr:bK ["web","rooms","names"] ["web"] (aP yG):=by walk_at "sc"
abbrev AS:Stmt:=top 13
def HA:bK ["rings","room","name"] ["rings"] (aP AS):=by walk_at "sc"
abbrev yc:Stmt:=top 14
def HE:bK ["rings","corners","room","ring","name","behind"] ["rings"] (aP yc):=by walk_at "sc"
abbrev Aw:Stmt:=top 15
def Df:bK ["corner","corners","room","name","behind"] ["corner","corners"] (aP Aw):=by walk_at "sc"
abbrev zL:Stmt:=top 16
def G2:bK ["rings","corners"] ["rings"] (aP zL):=by walk_at "sc"
abbrev A':Stmt:=top 17
def Ei:bK ["rings","wall","first","row","name","ring"] ["rings","wall","first"] (aP A'):=by walk_at "sc"
abbrev xj:Stmt:=top 18
def Bu:bK ["rings","wall","corners","firsts","tied"] ["rings","wall"] (aP xj):=by walk_at "sc"
abbrev Ai:Stmt:=top 19
def Em:bK ["ring","names"] ["ring","names"] (aP Ai):=by walk_at "sc"
abbrev AE:Stmt:=top 20
def BW:bK ["rings","reached","turn"] ["rings"] (aP AE):=by walk_at "sc"
abbrev y9:Stmt:=top 21
def Fn:bK ["rings","ties","room","name"] ["rings"] (aP y9):=by walk_at "sc"
abbrev AO:Stmt:=top 22
def Hg:bK ["rings","threes","corner"] ["rings"] (aP AO):=by walk_at "sc"
abbrev Bc:Stmt:=top 23
def Eu:bK ["web","rings"] ["web"] (aP Bc):=by walk_at "sc"
abbrev AD:Stmt:=top 24
theorem HK:bK ["rings","one","other"] ["rings","one","other"] (aP AD):=by walk_at "sc"
abbrev kh:Stmt:=top 25
theorem oC:bK ["web","rings","threes","names","found","one","ties","other","thirds"] ["web"] (aP kh):=by walk_at "sc"
abbrev xV:Stmt:=top 27
def D1:bK ["_law_cell","_law_k","_law_number"] ["_law_cell","_law_k"] (aP xV):=by walk_at "sc"
abbrev x8:Stmt:=top 28
def Cy:bK ["_law_script","_law_cells","_law_number","_law_k"] ["_law_script"] (aP x8):=by walk_at "sc"
abbrev yf:Stmt:=top 29
def Fo:bK ["_law_purse_here","_law_out_of","_law_drawn"] ["_law_purse_here","_law_out_of"] (aP yf):=by walk_at "sc"
abbrev zQ:Stmt:=top 30
def CL:bK ["_law_purse_here","_law_many","_law_letters","_law_long","_law_stem","_law_at","_law_found","_law_k","_law_spots","_law_name"] ["_law_purse_here","_law_many"] (aP zQ):=by walk_at "sc"
abbrev Al:Stmt:=top 31
def DC:bK ["_law_purse_here","_law_rows","_law_name","_law_at","_law_low","_law_room","_law_lines","_law_line","_law_lower","_law_upper"] ["_law_purse_here","_law_rows","_law_name"] (aP Al):=by walk_at "sc"
abbrev y6:Stmt:=top 32
def Eo:bK ["_law_purse_here","_law_most","_law_names_here","_law_rows","_law_count","_law_k","_law_wide"] ["_law_purse_here","_law_most"] (aP y6):=by walk_at "sc"
abbrev yx:Stmt:=top 33
def FW:bK ["_law_one","_law_other","_law_low"] ["_law_one","_law_other","_law_low"] (aP yx):=by walk_at "sc"
abbrev A2:Stmt:=top 34
def Cv:bK ["_law_rows","_law_one","_law_low","_law_way","_law_found","_law_other","_law_near"] ["_law_rows","_law_one","_law_low","_law_way"] (aP A2):=by walk_at "sc"
abbrev zM:Stmt:=top 35
def B3:bK ["_law_rows","_law_one","_law_above","_law_right_here","_law_beneath","_law_left"] ["_law_rows","_law_one"] (aP zM):=by walk_at "sc"
abbrev yj:Stmt:=top 36
def Ea:bK ["_law_rows"] ["_law_rows"] (aP yj):=by walk_at "sc"
abbrev yC:Stmt:=top 37
def Cb:bK ["_law_purse_here","_law_web_here","_law_at","_law_found","_law_room","_law_row","_law_far"] ["_law_purse_here","_law_web_here"] (aP yC):=by walk_at "sc"
abbrev zh:Stmt:=top 39
theorem FA:bK ["_law_one","_law_other","_law_shuts"] ["_law_one","_law_other"] (aP zh):=by walk_at "sc"
abbrev zE:Stmt:=top 40
theorem EK:bK ["_law_web_here","_law_found","_law_room","_law_row"] ["_law_web_here"] (aP zE):=by walk_at "sc"
abbrev kc:Stmt:=top 45
theorem nK:bK ["_law_purse_here","_law_web_here","_law_name","_law_rows","_law_at","_law_room","_law_row","_law_k","_law_three","_law_one","_law_ring","_law_others","_law_spots"] ["_law_purse_here","_law_web_here","_law_name"] (aP kc):=by walk_at "sc"
abbrev Ao:Stmt:=top 46
theorem G4:bK ["_law_rows","_law_one","_law_other"] ["_law_rows","_law_one","_law_other"] (aP Ao):=by walk_at "sc"
abbrev yq:Stmt:=top 47
theorem Es:bK ["_law_web_here","_law_rows","_law_names_here","_law_threes","_law_found","_law_i","_law_j","_law_k","_law_three","_law_here"] ["_law_web_here"] (aP yq):=by walk_at "sc"
abbrev k0:Stmt:=top 48
def pX:bK ["_law_web_here","_law_due_here","_law_kept","_law_found","_law_three"] ["_law_web_here"] (aP k0):=by walk_at "sc"
abbrev xB:Stmt:=top 49
def DL:bK ["_law_script","_law_purse_here","_law_web_here","_law_name"] ["_law_script"] (aP xB):=by walk_at "sc"
structure Txt (mg:e6->Option cA):Prop where
 len:mg "len"=am
 int:mg "int"=am
 Us:mg "isinstance"=am
 rj:mg "range"=am
 min:mg "min"=am
 max:mg "max"=am
 all:mg "all"=am
 dict:mg "dict"=am
 sorted:mg "sorted"=am
 tuple:mg "tuple"=am
 list:mg "list"=am
 str:mg "str"=am
 bool:mg "bool"=am
end
section
variable{P:kH}{w:pe}{A:qp}{E:cA->ey->Prop}{s:ey}{X:Cx}{pos:H9}{e:hH}
theorem PR {Q:cA->ey->Prop}{Fin:ph->Prop}(hl:s.heap.IsList l items)(O:∀(led:Bool) (R:abF->ey->Prop) (I:dn) (f:ph),f=((s.heap.push {cls:=.type "set",dict:=am,data:=.set #[] 0 (.fresh 0 0 led)}).push {cls:=.type "list_iterator",data:=.fields #[.ref l,.int 0 0]})->l≠I->s.heap.objs.size∉[I,l]->f.get? s.heap.objs.size=al {cls:=.type "set",dict:=am,data:=.set #[] 0 (.fresh 0 0 led)}->f.IsList l items->(∃o,f.get? I=al o/\o.cls=.type "list_iterator"/\o.data=.fields #[.ref l,.int 0 0]) ->
   (∀s',Moved [s.heap.objs.size,I] (λa b=>b=a) {s with heap:=f} s'->Fin s'.heap->R (.ok<|.ret .none) s')->Zp (k5 P w) A.in1.in1 (.builtin "set.update.loop" ⟨[.ref s.heap.objs.size,.ref I],[]⟩) R {s with heap:=f})(h:∀(h':ph) (tk:Nat),Fin h'->(∀b o,b<s.heap.objs.size->s.heap.get? b=al o->h'.get? b=al o)->Q (.ref s.heap.objs.size) {s with heap:=h',toks:=tk}) :
  hX (k5 P w) A (call (.type "set") [.ref l]) Q E s:=by
 obtain⟨c,tl,hmro⟩:=WW.mro;have hmade:=PySem.F.called_set.made;have hsub:=WW.sub;refine wpAny_call<|codeAny_of_tree ?_;show hX _ _ (callAny (.type "set") _) _ _ _;refine fm ⟨Code.quiet_builtin _ (by decide +kernel),YE PySem.F.entry_type_call ?_⟩;rw[Around.under_plain (weight_type_call_type "set" [.ref l] []) ρ];have f:=WW.notType;have h2:=WW.canCreate;have hct:=PySem.F.typeCall_set_1<|.ref l
 repeat (any_goals (first|assumption|wp_step))
 refine Zo (code_set_new_1 (.ref l) (E:=E) (Q₁:=λobj g=>∃led:Bool,obj=.ref s.heap.objs.size/\g={s with heap:=s.heap.push {cls:=.type "set",dict:=am,data:=.set #[] 0 (.fresh 0 0 led)} }) λled=>⟨led,ρ,ρ⟩) λr g x=>?_;cases r with
 | error e=>exact x
 | ok fl =>
  cases fl with
  | ret obj =>
   obtain⟨led,rfl,rfl⟩:=x;have D:(s.heap.push {cls:=.type "set",dict:=am,data:=.set #[] 0 (.fresh 0 0 led)}).get? s.heap.objs.size=al {cls:=.type "set",dict:=am,data:=.set #[] 0 (.fresh 0 0 led)}:=ib _ ρ;have S:Shared.TypeIs {s with heap:=s.heap.push {cls:=.type "set",dict:=am,data:=.set #[] 0 (.fresh 0 0 led)} } (.ref s.heap.objs.size) "set":=⟨_,D,ρ⟩;have hli:=WW.init.lookup;have hbi:=WW.init.bind<|.ref s.heap.objs.size
   repeat (any_goals (first|assumption|wp_step))
   refine Zo (codeAny_call_builtin (R:=wants (λr i=>r=.none/\∃h' tk,i={s with heap:=h',toks:=tk} /\
     Fin h' /\
     (∀b o,b<s.heap.objs.size->s.heap.get? b=al o->h'.get? b=al o)) E) WW.init.plain PySem.F.entry_set_init<|check_set_init_1 S ?_) λy i d=>?_
   ·obtain⟨T,q,t,nl,u⟩:=hl;obtain⟨ocls,m,odata,j⟩:=T;simp only at t u;subst t;subst u;have z:(s.heap.push {cls:=.type "set",dict:=am,data:=.set #[] 0 (.fresh 0 0 led)}).get? l=al {cls:=.type "list",dict:=m,data:=.seq items nl,slots:=j}:=e7 _ q;have hsls:=PySem.F.sub_list_set;have hslf:=PySem.F.sub_list_frozenset;have hne:(aat "list" == aat "dict")=bn:=by decide
    have v:(s.heap.push {cls:=.type "set",dict:=am,data:=.set #[] 0 (.fresh 0 0 led)}).IsList l items:=⟨_,z,ρ,nl,ρ⟩;unfold Yy.«set.__init__» noKeywords ab5;generalize G:acg=PI
    wp_walk
    subst G;refine XQ v<|cW<|wpAny_runValue ?_;have H:l<s.heap.objs.size:=gg q;have B:l≠(s.heap.push {cls:=.type "set",dict:=am,data:=.set #[] 0 (.fresh 0 0 led)}).objs.size:=by rw[Zj];exact hQ<|YQ H
    have J:s.heap.objs.size∉[(s.heap.push {cls:=.type "set",dict:=am,data:=.set #[] 0 (.fresh 0 0 led)}).objs.size,l]:=by simp_all [ZX]
    have C:((s.heap.push {cls:=.type "set",dict:=am,data:=.set #[] 0 (.fresh 0 0 led)}).push {cls:=.type "list_iterator",data:=.fields #[.ref l,.int 0 0]}).get? s.heap.objs.size=al {cls:=.type "set",dict:=am,data:=.set #[] 0 (.fresh 0 0 led)}:=e7 _ D;refine O led _ _ _ ρ B J C (v.push _) ⟨_,ib _ ρ,ρ,ρ⟩ ?U;intro s' n k;obtain⟨h',g',d',K,L⟩:=s';have V:g'=s.gens:=n.gens;have W:d'=s.drawn:=n.drawn;have Y:L=s.os:=n.os;subst V;subst W;subst Y;show hX _ _ _ _ _ _;refine fm ?_;show hX _ _ (ret Value.none) _ _ _;refine fm ⟨ρ,h',K,ρ,k,λb o M e=>?_⟩;have hb1:b≠s.heap.objs.size:=hQ M;have hb2:b≠(s.heap.push {cls:=.type "set",dict:=am,data:=.set #[] 0 (.fresh 0 0 led)}).objs.size:=by rw[Zj];exact hQ<|YQ M
    refine n.heap b o ?_<|e7 _<|e7 _ e;simp_all
   cases y with
   | error e=>exact d
   | ok p =>
    cases p with
    | ret r =>
     obtain⟨rfl,h',tk,rfl,k,N⟩:=d
     repeat (any_goals (first|assumption|wp_step))
     exact h _ _ k N
    | _=>exact d.elim
  | _=>exact x.elim
theorem P6(bs:List Bool):((hB bs.length).any λi=>(bs[i]?).getD false)=bs.any id:=by
 induction bs with
 | nil=>rfl
 | cons b r a=>simp only[gi,X8,Y7,XX,<-a];rfl
def SG(g:X.calm=bi):bP X (.builtin "any") (λxs H Q=>∃(p:dn) (bs:List Bool),xs=[.ref p]/\Rd H p (.L<|bs.map V.bl)/\Q (.bl<|bs.any id) H):=by
 intro pins s σ H xs us Q I r h;obtain⟨p,bs,rfl,j,q⟩:=h;obtain⟨u,rfl,k⟩:=r.one;subst k;obtain⟨z,its,n,l,e⟩:=j.ok I.ak;have c:=yA l;subst c;have d:s.heap.IsList p (bs.map Sq).toArray:=⟨_,e,ρ,n,ρ⟩;have m:p<s.heap.objs.size:=gg e;refine call_any_walk (XQ d ⟨s.heap.objs.size,[s.heap.objs.size,p],[s.heap.objs.size],(bs.map Sq).toArray.size,_,_,λi=>(bs[i]?).getD false,ρ,
  Walks.list (A:=X.A.in1) (I.ok.hd g) _ p (hQ m) (bs.map Sq).toArray,⟨⟨_,ib _ ρ,ρ,ρ⟩,d.push _⟩,λi v s' Q' E' a f=>?_,λh' tk o=>?_⟩)
 ·have a:(bs.map Sq)[i]?=al v:=by simpa using a
  rw[c6] at a;obtain⟨b,c,a⟩:=oM a;obtain rfl:=sO a;simp[c] at f;exact Xe f
 have t:(hB (bs.map Sq).toArray.size).any (λi=>(bs[i]?).getD false)=bs.any id:=by simp[P6]
 rw[t];refine⟨.bl _,H,?_,ρ,q⟩;exact I.kept λb x ex=>o b x (λy=>by rw[n6.1 y] at ex;exact z9 _<|gg ex)<|e7 _ ex
theorem ints_get:∀{a:List Int}{its:List cA}{i:Nat}{v:cA},aC (a.map V.int) its->its[i]?=al v->∃t,v=.int ((a[i]?).getD 0) t
 | [],_,i,v,h,e=>by cases h;simp at e
 | n::a,_,0,v,h,e=>by
  cases h with
  | cons r t=>obtain⟨tk,rfl⟩:=r;simp at e;exact⟨tk,e.symm⟩
 | n::a,_,i+1,v,h,e=>by
  cases h with
  | cons r t=>have:=ints_get (i:=i) (v:=v) t (by simpa using e);simpa using this
theorem Cs:∀{a:List e6}{its:List cA}{i:Nat}{v:cA},aC (a.map V.str) its->its[i]?=al v->∃t,v=.str ((a[i]?).getD XC) t
 | [],_,i,v,h,e=>by cases h;simp at e
 | n::a,_,0,v,h,e=>by
  cases h with
  | cons r t=>obtain⟨tk,rfl⟩:=r;simp at e;exact⟨tk,e.symm⟩
 | n::a,_,i+1,v,h,e=>by
  cases h with
  | cons r t=>have:=Cs (i:=i) (v:=v) t (by simpa using e);simpa using this
noncomputable def iC(a:List Int):Int:=(a[argBest (λi j=>bd<|(a[i]?).getD 0>(a[j]?).getD 0) (a.length-1)]?).getD 0
noncomputable def OY(a:List e6):Str:=(a[argBest (λi j=>bd<|((a[i]?).getD XC).cps.toList<((a[j]?).getD XC).cps.toList) (a.length-1)]?).getD XC
theorem IH{its:List cA}{s:ey}{p:dn}(c:p<s.heap.objs.size){o:Th}:∀b∈[s.heap.objs.size,p],b<(s.heap.push o).objs.size:=fun b a=>by
 rw[Zj];simp at a;rcases a with rfl|rfl
 ·exact Y0 _
 exact YQ c
theorem JG(l:X.calm=bi):bP X (.builtin "max") (fun xs H Q=>∃(p:dn) (a:List Int),xs=[.ref p]/\Rd H p (.L<|a.map V.int)/\a≠[]/\Q (.int<|iC a) H):=by
 intro pins s σ H xs us Q I r h;obtain⟨p,a,rfl,m,f,q⟩:=h;obtain⟨u,rfl,o⟩:=r.one;subst o;obtain⟨z,its,n,c,e⟩:=m.ok I.ak;have g:s.heap.IsList p its.toArray:=⟨_,e,ρ,n,ρ⟩;have j:=gg e;have k:its.length=a.length:=by have:=c.length;simpa using this.symm
 have h0:0<a.length:=ql.2 f;refine call_max_walk (XQ g ⟨s.heap.objs.size,[s.heap.objs.size,p],[s.heap.objs.size],its.toArray.size,_,_,_,ρ,
  Walks.list (A:=X.A.in1) (I.ok.hd l) _ p (hQ j) its.toArray,⟨⟨_,ib _ ρ,ρ,ρ⟩,g.push _⟩,IH (its:=its) j,by rw[gs];lia,CmpOf.ints_gt (fun i=>(a[i]?).getD 0) (fun i v d=>ints_get c (by simpa using d)),fun v h' tk d y=>?_⟩)
 obtain⟨t,rfl⟩:=ints_get c (show its[_]?=al v by simpa using d);refine⟨.int<|iC a,H,?_,⟨t,?_⟩,q⟩
 ·exact I.kept fun b x ex=>y b x (fun B=>by rw[n6.1 B] at ex;exact z9 _<|gg ex)<|e7 _ ex
 rw[k];rfl
noncomputable def oh:List Dat->Option (List Int)
 | []=>al []
 | .int x::r=>(oh r).map (x::·)
 | _::_=>am
theorem CB{K:ft}{H:Hp}:∀{ds:List Dat}{vs:List V}{ys:List Int},oh ds=al ys->aw K H ds vs->vs=ys.map V.int
 | [],_,_,e,r=>by obtain rfl:=sO e;exact r
 | d::ds,_,_,e,a=>by
  obtain⟨v,vr,b,c,rs⟩:=a;cases d with
  | int x=>obtain⟨ys',f,e⟩:=oM e;obtain rfl:=sO e;simp only[b,CB f rs];subst c;rfl
  | _=>exact nO e
def vG:List Dat->Option Res
 | [.L ds]=>(j4 ds).map λbs=>.D (.bl<|bs.any id)
 | _=>am
def uQ:List Dat->Option Res
 | [.L ds]=>(oh ds).bind λa=>if a=[] then am else al (.D<|.int<|iC a)
 | _=>am
def SK (a:X.calm=bi)(b:Gl X "any")(c:X.mg "any"=am)(d:bN X e [])(f:DA X [e] fa):DE X (.Call (.Name "any" p) [e] [] pos) (cb vG fa):=jT (SG a) (by
  intro H0 ps Z σ H Hi vs ds o Q e S r k;delta vG at e;split at e
  ·obtain⟨bs,c,e⟩:=oM e;obtain rfl:=sO e;obtain⟨v,vr,rfl,⟨a,ws,rfl,b,rs⟩,d⟩:=r;subst d;rw[xS c rs] at b;exact⟨a,bs,ρ,Rd.mono S.sub b,k _ H Hi S (ag.refl _) ρ⟩
  exact nO e) b c (by decide +kernel) f ⋯ ρ d ρ
def Qc (a:X.calm=bi)(b:Gl X "max")(c:X.mg "max"=am)(d:bN X e [])(f:DA X [e] fa):DE X (.Call (.Name "max" p) [e] [] pos) (cb uQ fa):=jT (JG a) (by
  intro H0 ps Z σ H Hi vs ds o Q e S r k;delta uQ at e;split at e
  ·obtain⟨b,f,e⟩:=oA e;have e:=e;split at e
   ·exact nO e
   rename_i c;obtain rfl:=sO e;obtain⟨v,vr,rfl,⟨a,ws,rfl,d,rs⟩,g⟩:=r;subst g;rw[CB f rs] at d;exact⟨a,b,ρ,Rd.mono S.sub d,c,k _ H Hi S (ag.refl _) ρ⟩
  exact nO e) b c (by decide +kernel) f ⋯ ρ d ρ
noncomputable def ltI(fs:List Int)(i j:Nat):Bool:=bd<|fs.getD i 0<fs.getD j 0
def Mc (nd:fs.Nodup):Ord (ltI fs) fs.length where
 trans:=λi j k c a=>decide_eq_true<|Int.lt_trans (of_decide_eq_true c)<|of_decide_eq_true a
 total:=λi j d f b=>by
  delta ltI;rw[eZ d,eZ f];by_cases h:fs[i]<fs[j]
  ·exact ι<|decide_eq_true h
  refine τ (decide_eq_true ?_);by_cases a:fs[j]<fs[i]
  ·exact a
  have e:fs[i]=fs[j]:=by lia
  exact absurd ((W3 nd).1 e) b
 fw:=λi=>decide_eq_false<|Int.lt_irrefl _
def pQ(K:ft)(H:Hp)(vs:List V)(fs:List Int):Prop:=vs.length=fs.length/\∀(i:Nat) (f:Int),fs[i]?=al f->∃a b,vs[i]?=al (.ref a)/\aS K H a b/\b[0]?=al (.int f)
def K2(fs:List Int)(vs out:List V):Prop:=∃q:Array Nat,cQ q vs.length/\eV (ltI fs) q vs.length/\out=q.toList.map λi=>vs.getD i .aU
def EC(K:ft):List V->Hp->VK->Prop:=λxs H Q=>∃p vs fs,xs=[.ref p]/\Rd H p (.L vs)/\pQ K H vs fs/\fs.Nodup/\vs.length<64/\∀out,K2 fs vs out->∀l,H l=am->Q (.ref l) (upd H l<|.L out)
theorem AY (I:Inv X j σ H s):∀{fs:List Int}{vs:List V}{its:List cA},pQ X.K H vs fs->aC vs its ->
  ∃c:List cA,Za s.heap its c/\c.length=fs.length/\(∀v∈c,∃x t,v=YW x t)/\∀(i:Nat) (f:Int),fs[i]?=al f->∃a o xs n t,its[i]?=al (.ref a)/\s.heap.get? a=al o/\o.data=.seq xs n/\xs[0]?=al (YW f t)
 | [],[],_,h,r=>by
  cases r;exact⟨[],.nil,ρ,λv k=>by simp at k,λi f e=>by simp at e⟩
 | [],_::_,_,h,_=>by simp[pQ] at h
 | _::_,[],_,h,_=>by simp[pQ] at h
 | f::fs,v::vs,_,h,r=>by
  cases r with
  | cons q rs =>
   obtain⟨a,ws,y,B,C⟩:=h.2 0 f ρ;obtain rfl:=sO y;subst q;have h':pQ X.K H vs fs:=⟨by simpa using h.1,λi g e=>by
    obtain⟨b,us,l,m,D⟩:=h.2 (i+1) g (by simpa using e)
    exact⟨b,us,by simpa using l,m,D⟩⟩
   obtain⟨c,F,G,J,L⟩:=AY I h' rs;obtain⟨its,M,⟨o,p,N,n,hd⟩,_⟩:=I.tuple B;obtain⟨u,O,Q⟩:=M.get C;obtain⟨t,rfl⟩:=Q;have d:its.toArray[0]?=al (YW f t):=by simpa using O
   refine⟨YW f t::c,.cons p N hd d F,by simp[G],λv k=>?_,λi g e=>?_⟩
   ·rcases eS.1 k with z|z
    ·exact⟨f,t,z⟩
    exact J v z
   cases i with
   | zero=>simp at e;subst e;exact⟨a,o,_,n,t,ρ,p,hd,d⟩
   | succ i=>obtain⟨b,R,xs,S,t',l,m⟩:=L i g (by simpa using e);exact⟨b,R,xs,S,t',by simpa using l,m⟩
theorem RA(G:X.ex=[]):bP X (.builtin "sorted") (EC X.K):=by
 intro pins s σ H xs us Q I r h;obtain⟨p,vs,fs,rfl,S,c,nd,J,q⟩:=h;obtain⟨u,rfl,U⟩:=r.one;subst U;refine A4 G (T:=.type "int") I S J (by rw[c.1];exact Mc nd) ⋯ (λits B=>?_) (λits B i j D F L h' n C hC=>?_) q
 ·obtain⟨V,Y,Z,ks,_⟩:=AY I c B;refine⟨V,Y,by rw[Z];exact c.1.symm,λv hv h=>?_⟩;obtain⟨x,t,rfl⟩:=ks v hv;exact ZU ρ
 obtain⟨_,_,_,_,y⟩:=AY I c B;rw[c.1] at D F;obtain⟨a,o,xs,n1,t1,a1,a2,M,d⟩:=y i _<|cn D;obtain⟨b,o',ys,n2,t2,b1,b2,N,f⟩:=y j _<|cn F;have ea:its.getD i Value.none=.ref a:=by rw[gm,a1];rfl
 have eb:its.getD j Value.none=.ref b:=by rw[gm,b1];rfl
 rw[ea,eb];apply acL (n _ _ _ _ M a2) M (n _ _ _ _ N b2) N;obtain⟨g,k,ex⟩:∃g k,xs.toList=g::k:=by
  cases hx:xs.toList with
  | nil=>rw[<-px,hx] at d;exact nO d
  | cons g k=>exact⟨g,k,ρ⟩
 obtain⟨l,m,O⟩:∃l m,ys.toList=l::m:=by
  cases hy:ys.toList with
  | nil=>rw[<-px,hy] at f;exact nO f
  | cons l m=>exact⟨l,m,ρ⟩
 rw[<-px,ex] at d;rw[<-px,O] at f;obtain rfl:=sO d;obtain rfl:=sO f;simp only[ex,O];have R:fs[i]≠fs[j]:=λz=>L<|(W3 nd).1 z;refine ab3<|acF ?_;simp[beq_eq_false_iff_ne.2 R];refine acK<|oneLt_int ?_;have:ltI fs i j=bd (fs[i]<fs[j]):=by unfold ltI;rw[eZ D,eZ F]
 simp_all
noncomputable def qu:Dat->Option Int
 | .U (.int x::_)=>al x
 | _=>am
noncomputable def firstsI:List Dat->Option (List Int)
 | []=>al []
 | d::r=>(qu d).bind λx=>(firstsI r).map (x::·)
def i7(d:Dat):Int:=(qu d).getD 0
def fP(a b:Dat):Bool:=bd<|i7 a<=i7 b
def wO(ds:List Dat):List Dat:=ds.mergeSort fP
theorem ES:∀{ds:List Dat}{fs:List Int},firstsI ds=al fs->fs=ds.map i7/\∀d∈ds,∃x,qu d=al x
 | [],_,e=>by obtain rfl:=sO e;exact⟨ρ,λd h=>by simp at h⟩
 | d::r,_,e=>by obtain⟨x,e1,e⟩:=oA e;obtain⟨ys,a,e⟩:=oM e;obtain rfl:=sO e;obtain⟨h1,h2⟩:=ES a;simp_all [i7]
theorem E4{K:ft}{H Hi:Hp}(s:ag Hi H):∀{ds:List Dat}{vs:List V}{fs:List Int},firstsI ds=al fs->aw K Hi ds vs->pQ K H vs fs
 | [],_,_,e,r=>by obtain rfl:=sO e;rw[show _=[] from r];exact⟨ρ,λi f e=>by simp at e⟩
 | d::ds,_,_,e,b=>by
  obtain⟨v,vr,h,j,rs⟩:=b;have e:(qu d).bind (λx=>(firstsI ds).map (x::·))=al _:=e;obtain⟨x,a,e⟩:=oA e;obtain⟨ys,k,e⟩:=oM e;obtain rfl:=sO e;obtain⟨l,h2⟩:=E4 s k rs;simp only[h];refine⟨by simp[l],λi f c=>?_⟩;cases i with
  | zero =>
   simp at c;subst c;unfold qu at a;split at a
   ·obtain rfl:=sO a;obtain⟨p,m,rfl,n,w1,wr,o,g,_⟩:=j;subst g;exact⟨p,m,ρ,aS.mono s n,by rw[o];rfl⟩
   exact nO a
  | succ i=>simp_all
def MC (nd:(ds.map i7).Nodup)(P:cQ q ds.length)(U:eV (ltI<|ds.map i7) q ds.length):(q.toList.map λi=>ds.getD i .aU)=wO ds:=by
 have pm:(q.toList.map λi=>ds.getD i .aU).Perm ds:=by have:=P.pm.map<|λi=>ds.getD i .aU;rwa[Aa] at this
 have m:∀i,i<ds.length->i7 (ds.getD i .aU)=(ds.map i7).getD i 0:=λi c=>by rw[eZ c,eZ (by simpa using c)];simp
 have g:(q.toList.map λi=>ds.getD i .aU).Pairwise (λa b=>fP a b=bi/\a∈ds/\b∈ds):=by
  rw[oy];intro i j c d n;have o:i<ds.length:=by rw[<-P.size];simpa using c
  have f:j<ds.length:=by rw[<-P.size];simpa using d
  refine⟨?_,pm.mem_iff.1<|W1 _,pm.mem_iff.1<|W1 _⟩;have u:=U i j n f;have r:q.toList[i]'(by simpa using c)=q.getD i 0:=by simp only[ua,qo (by simpa using c)];simp
  have t:q.toList[j]'(by simpa using d)=q.getD j 0:=by simp only[ua,qo (by simpa using d)];simp
  simp only[W2,r,t];unfold fP;simp only[m _ (P.lt i o),m _<|P.lt j f];unfold ltI at u;exact decide_eq_true<|Int.le_of_lt<|of_decide_eq_true u
 have k:(wO ds).Pairwise (λa b=>fP a b=bi/\a∈ds/\b∈ds):=by
  refine Yq (λv x p=>⟨p,?_,?_⟩) (zb (le:=fP) (λa b c h1 h2=>by
    delta fP at *;simp at *
    lia) (λa b=>by
      unfold fP
      lia) ds)
  ·exact (gn ds fP).mem_iff.1 v
  exact (gn ds fP).mem_iff.1 x
 refine pU (λa b l y=>?_) (pm.trans (gn ds fP).symm) g k;have e:=aaz (of_decide_eq_true l.1)<|of_decide_eq_true y.1;obtain⟨i,c,z⟩:=wy l.2.1;obtain⟨j,d,B⟩:=wy l.2.2;have C:(ds.map i7)[i]'(by simpa using c)=(ds.map i7)[j]'(by simpa using d):=by simp[z,B,e]
 have e3:=(W3 nd).1 C;simp_all
def qO:List Dat->Option Res
 | [.L ds]=>(firstsI ds).bind λfs=>if fs.Nodup/\ds.length<64 then al (.O<|.L<|wO ds) else am
 | _=>am
def zl (a:X.ex=[])(b:Gl X "sorted")(c:X.mg "sorted"=am)(d:bN X e [])(f:DA X [e] fa):DE X (.Call (.Name "sorted" p) [e] [] pos) (cb qO fa) :=
 jT (RA a) (by
   intro H0 ps Z σ H Hi vs ds o Q a S r k;delta qO at a;split at a
   ·obtain⟨fs,d,a⟩:=oA a;split at a
    ·rename_i c;obtain rfl:=sO a;obtain⟨v,vr,rfl,⟨p,h,rfl,j,rs⟩,m⟩:=r;subst m;have b:=rs.length;refine⟨p,h,fs,ρ,Rd.mono S.sub j,E4 S.sub d rs,c.1,by rw[b];exact c.2,λout g l hl=>?_⟩;obtain⟨q,P,U,n⟩:=g;obtain⟨f,_⟩:=ES d;subst f;simp[b] at P U;have t:=MC c.1 P U;subst n;have g:=aw.pick rs q.toList (λi u=>by rw[b];exact sC P i u);rw[t] at g;exact k (.ref l) _ Hi (S.made hl) (ag.refl _) ⟨l,ρ,⟨_,aT,g,S.cX hl⟩,(S.bB hl).2,(S.bB hl).1,S.dO hl⟩
    exact nO a
   exact nO a) b c (by decide +kernel) f ⋯ rfl d rfl
end
section
variable{X:Cx}
def KL (g:X.A.units+65<zR)(b:X6 o "index" X.env (eval o X.env)=eval o X.env)(d:sA X pos e)(c:(a.endLine==pos.line)=bi)(h:bN X e [])(i:DD X o f)(j:DA X [e] fa):DD X (.Call (.Attribute o "index" a) [e] [] pos) (qM f fa) :=
 KQ i j (λk l=>lQ KX aa9 PySem.F.type_list_index (TX g) k l b d c h ρ)
def Dn:V->List V->Hp->VK->Prop:=fun x vs H Q=>∃(l:dn) (xs:List V) (y:V) (i:Nat),x=.ref l/\vs=[.int (i:Int),y]/\H l=al (.L xs)/\i<=xs.length/\xs.length<dk/\Q .aU (upd H l<|.L (xs.take i++y::xs.drop i))
theorem CQ:∀{vs:List V}{us:List cA},aC vs us->∀i,aC (vs.take i) (us.take i)
 | _,_,_,0=>.nil
 | _,_,.nil,_+1=>.nil
 | _,_,.cons r t,i+1=>.cons r<|CQ t i
theorem Bl:∀{vs:List V}{us:List cA},aC vs us->∀i,aC (vs.drop i) (us.drop i)
 | _,_,h,0=>h
 | _,_,.nil,_+1=>.nil
 | _,_,.cons _ t,i+1=>Bl t i
theorem KU:ya X "list.insert" Dn:=by
 intro pins s σ H x vs v us Q I rx g h;obtain⟨l,xs,y,i,rfl,rfl,d,j,hz,q⟩:=h;subst rx;cases g with
 | cons k rs =>
  cases rs with
  | cons m o =>
   cases o;rename_i u;obtain⟨t,rfl⟩:=k;obtain⟨z,its,n,r,hl,e⟩:=I.uW d;have c:its.length=xs.length:=r.length.symm;have b:¬(!Builtin.List.listFitsIndex (i:Int))=bi:=by have:=kZ;unfold ZA;simp only[sj,Bool.and_eq_false_iff,decide_eq_false_iff_not,not_or,Classical.not_not];constructor<;>lia
   have hsz:its.toArray.size<=sizeLine:=by rw[gs];lia
   obtain⟨a,f⟩:∃a:Int,a=(i:Int):=⟨_,ρ⟩;rw[<-f] at b ⊢;have p:=AutoSeq1.list_insert_list_int_val_1 l its.toArray n a t u b hsz;refine YV aaZ ⟨_,e,ρ⟩ F.entry_list_insert (F.args_list_insert_3 _ _ _) p ⟨e,?_⟩;refine⟨.aU,_,I.xo (its':=its.take i++u::its.drop i) d e ?_ ((CQ r i).append (.cons m<|Bl r i)) ?_,ρ,q⟩
   ·have w:(if a<0 then (a+(its.toArray.size:Int)).toNat else min a.toNat its.toArray.size)=i:=by rw[if_neg (by lia),gs];lia
    dsimp only;rw[w];apply acV;simp[c,j];rw[X7 (by rw[nS];lia)]
   simp only[eW,gi,hY,nS];lia
noncomputable def tL:Dat->List Dat->Option (Dat×Dat)
 | .L xs,[.int i,d]=>if 0<=i/\i<=xs.length/\xs.length<dk then al (.aU,.L (xs.take i.toNat++d::xs.drop i.toNat)) else am
 | _,_=>am
theorem Ee{K:ft}{H:Hp}:∀{ds:List Dat}{vs:List V},aw K H ds vs->∀i,aw K H (ds.take i) (vs.take i)
 | _,_,_,0=>by simp[aw]
 | [],_,h,i+1=>by rw[show _=[] from h];simp[aw]
 | d::ds,_,a,i+1=>by obtain⟨v,r,e,q,t⟩:=a;rw[e];exact⟨v,_,ρ,q,Ee t i⟩
theorem G3{K:ft}{H:Hp}:∀{ds:List Dat}{vs:List V},aw K H ds vs->∀i,aw K H (ds.drop i) (vs.drop i)
 | _,_,h,0=>h
 | [],_,h,i+1=>by rw[show _=[] from h];simp[aw]
 | d::ds,_,a,i+1=>by obtain⟨v,r,e,q,t⟩:=a;rw[e];exact G3 t i
theorem R'{K:ft}:MD K "list" Dn tL:=by
 intro H Hi p c ds vs d c' Q e sm f r k;unfold tL at e;split at e
 ·rename_i xs i dd;split at e
  ·rename_i g;obtain⟨rfl,rfl⟩:=sP e;obtain⟨h,j,a,l⟩:=f;obtain⟨v0,vr,rfl,b,v,vr',rfl,m,n⟩:=r;subst n;subst b;have hl:=a.length;refine⟨p,h,v,i.toNat,ρ,by rw[Xl g.1],j,by omega,by omega,k .aU _ ⟨_,aT,aw.append (Ee a _) ⟨v,_,ρ,m,G3 a _⟩,l⟩ rfl⟩
  exact nO e
 exact nO e
theorem B5{x:e6}{fa:AF}{c a d pos:H9}{e b:hH}{i:Nat}(k:X.N.findIdx? (·==x)=al i)(l:cj X.env.scope x)(hd:bD x)(m:cH x)(f:X6 (.Name x c) "insert" X.env (eval (.Name x c) X.env)=eval (.Name x c) X.env)
 (j:((XG pos<|nk [e,b] X.env).all (fun x=>!x.1)&&(adb pos<|ab0 [] X.env).all (fun x=>x.1.isSome)&&bd ([e,b].length+([]:List aaU).length+(if ([]:List aaU).isEmpty then 0 else 1)<30))=bi)
 (g:(a.endLine==pos.line)=bi)(p:bN X e [b])(n:(XG pos<|nk [b] X.env).any (·.1)=bn)(o:Fs (.Call (.Attribute (.Name x c) "insert" a) [e,b] [] pos) am d.line X.env=pure false)(q:DA X [e,b] fa) :
  cg X (.Expr (.Call (.Attribute (.Name x c) "insert" a) [e,b] [] pos) d) (ng<|iS i tL fa) :=
 ye (Gj i (dZ k) l (fun h=>lQ KX aaZ PySem.F.type_list_insert KU (fh (dZ k) l hd m) h f j g p n) R' q) o
def Fq(d:dn)(o:Th)(kvs:List (Key×V)):It:=⟨λi H=>H d=al (.aV o<|.dK kvs)/\i<kvs.length,λi H v H'=>H'=H/\∃k x,kvs[i]?=al (k,x)/\v=kV k,λi H=>H d=al (.aV o<|.dK kvs)/\kvs.length<=i⟩
def Oh (h:j1 k u=bi):RelV (kV k) u:=by
 rcases jM h with⟨i,t,rfl,rfl⟩|⟨x,t,rfl,rfl⟩
 ·exact⟨t,ρ⟩
 exact⟨t,ρ⟩
def RZ{P:kH}{w:pe}{K:ft}{J:hH}{d it:dn}{o:Th}{kvs:List (Key×V)}{vs:List (Key×cA)}{ep:Nat}(p:KV kvs vs)(hne:d≠it)(F:∀h:ph,h.get? d=al o->h.DictAt (cF P w) d vs ep) :
  Turn P w K J (Fq d o kvs) [it] it (λi h=>h.IsKeyIter it d i vs.length ep) where
 mem:=by simp
 obj:=λi h st b a=>by
  have e:b=it:=by simpa using a
  subst e;obtain⟨o,e,c,d⟩:=st;exact⟨o,e,λv z=>by rw[d] at z;contradiction⟩
 keep:=λi h h' st k=>by obtain⟨o,e,c,d⟩:=st;exact⟨o,k it (by simp) o e,c,d⟩
 item:=by
  intro X q hw r G i f s σ H E I j st t;subst q hw r;obtain⟨u,x,L,y,A,B⟩:=j it (by simp);obtain⟨hd,g⟩:=t;have C:=F s.heap (I.ak d _ hd).1;have m:i<vs.length:=by rw[<-p.length];exact g
  have hx:=cn m;refine wpAny_pyNext_dict_item st C hx λkey h' D n M=>?_;have N:Inv X f σ H {s with heap:=h',toks:=s.toks}:=I.turned (λb o a e=>(M.2 b a).trans e) u x y A B;obtain⟨o',e,c,dd⟩:=id n;have O:kvs[i].1=vs[i].1:=by have:=congrArg (λl=>l[i]?) p.keys;simp only[c6,cn g,cn m] at this;exact Option.some.inj this
  exact⟨_,ρ,qx e c dd ρ ⟨kV kvs[i].1,H,N,by rw[O];exact Oh D,⟨ρ,kvs[i].1,kvs[i].2,cn g,ρ⟩,n,λb a=>(j b a).1⟩⟩
 done:=by intro X q hw r G i f s σ H E I j st t;subst q hw r;obtain⟨u,x,L,y,A,B⟩:=j it (by simp);obtain⟨hd,g⟩:=t;have C:=F s.heap (I.ak d _ hd).1;exact wpAny_pyNext_dict_end (I.ok.hd G) st C (List.getElem?_eq_none (by rw[<-p.length];exact g)) λh' Q=>⟨ρ,I.turned (λb o a e=>Q b o a e) u x y A B⟩
 self:=λ_ _ _ _ _ st h=>abX st h
def Inv.aV (I:Inv X f σ H s)(e:H d=al (.dK kvs))(i:s.heap.get? d=al o):Inv X f σ (upd H d<|.aV o<|.dK kvs) s:=by
  have g:∀b u,H b=al u->u≠.dK kvs->b≠d:=by lia
  have un:Un X.fs [] H (upd H d<|.aV o<|.dK kvs) s.heap s.heap :=
    ⟨λb a q _ _ _=>q,λb a q _ _ _=>⟨a.slots,q⟩,λb a q n _=>by rw[ax (λz=>by simp_all)];exact n,λb a q _=>⟨a,q⟩,
     λb xs q=>by rw[ax (g b _ q ⋯)];exact q,λb a u q=>by rw[ax (g b _ q ⋯)];exact q,λb ps q=>⟨#[],by rw[ax (g b _ q ⋯),q];simp⟩⟩
  have st:∀b u,cB X.prog X.w H s.heap b u->cB X.prog X.w (upd H d<|.aV o<|.dK kvs) s.heap b u:=λb u x =>
    x.gp (λc v _ q=>q) (λc q=>by rw[ax (g c _ q ⋯)];exact q) λc xs q=>by rw[ax (g c _ q ⋯)];exact q
  have ak:bZ X.prog X.w (upd H d<|.aV o<|.dK kvs) s.heap:=λb u q=>by
    by_cases h:b=d
    · subst h;rw[aT] at q;obtain rfl:=sO q;exact⟨i,st _ _<|I.ak _ _ e⟩
    rw[ax h] at q;exact st _ _<|I.ak b u q
  exact I.un un ak
end
structure gX (x:e6):Prop where
 ok:True
section
variable{X:Cx}{pos:H9}{P:kH}{w:pe}{A:qp}{R:abF->ey->Prop}{I:dn}{fp wr:List dn}{G:Array aaX->Array aaX->Prop}{n:Nat}{Pr:Nat->cA->Prop}{St:Nat->ey->Prop}{E:cA->ey->Prop}{s:ey}{apos:H9}
def pS(i:Nat)(g:DF):DF:=λZ=>match Z[i]? with
 | some (.D<|.d9 a)=>(g Z).bind λp=>match p.1 with
  | .str k=>(dN a k).map λd=>(d,p.2)
  | _=>am
 | _=>am
def SY (hx:gX x)(m:X.N.findIdx? (·==x)=al i)(q:cj X.env.scope x)(r:X.A.units+1<zR)(hd:bD x)(c:cH x)(t:oU b)(u:DD X b g):DD X (.Subscript (.Name x l) b pos) (pS i g):=by
 obtain⟨tb,z,B⟩:=u;refine⟨_,zV r (fh (dZ m) q hd c) z t,λC D Z σ H Hi d Z' Q e S k=>?_⟩;unfold pS at e;split at e
 ·rename_i ks F;obtain⟨n,Z1,J,e⟩:=oB e;dsimp only at e;split at e
  ·rename_i f;obtain⟨d',K,e⟩:=oM e;cases e;obtain⟨v0,L,p,o,kvs,rfl,M,O⟩:=S.D i _ F;refine⟨_,L,B C D Z σ H Hi _ _ _ J S λy T h j a U=>?_⟩;subst U;obtain⟨v,V,W⟩:=((O.mono a).find f).1 d K;refine⟨p,v,ρ,?_,k v T h j a W⟩;rw[<-V];exact ι ⟨kvs,uy f,τ ⟨o,j.sub _ _<|a _ _ M⟩,ρ,ρ⟩
  exact nO e
 exact nO e
def Rd.GO (h:Rd H a (.L xs))(h':Rd H a (.L ys)):xs=ys:=by rcases h with h|⟨o,h⟩<;>rcases h' with h'|⟨o',h'⟩<;>rw[h] at h'<;>cases h'<;>rfl
noncomputable def ie(a:List Key)(v:Key):List Key:=if a.any (λx=>bd<|x=v) then a else a++[v]
def dG(val:Nat->Key)(i:Nat):List Key:=((hB i).map val).foldl ie []
def CS(val)(i):dG val (i+1)=ie (dG val i) (val i):=by unfold dG;rw[Yr,gf,List.foldl_append];rfl
theorem AB(val):∀i,(dG val i).length<=i
 | 0=>fj _
 | i+1=>by
  have ih:=AB val i;rw[CS];unfold ie;split
  ·lia
  simp_all
def IS(a)(v k):(ie a v).any (λx=>bd<|x=k)=(a.any (λx=>bd<|x=k)||bd (k=v)):=by
 delta ie;by_cases h:a.any (λx=>bd<|x=v)=bi
 ·rw[if_pos h];by_cases e:k=v
  ·subst e;rw[h];simp
  simp[e]
 rw[if_neg h,List.any_append];by_cases e:k=v
 ·subst e;simp
 have:¬v=k:=λz=>e z.symm;simp[e,this]
def B7(a)(v):(ie a v).length=if a.any (λx=>bd<|x=v) then a.length else a.length+1:=by delta ie;split<;>simp
theorem QL(W:WalksS P w A.in1 I fp wr G n Pr St)(S:dn)(B:S∉fp)(val:Nat->Key)(M:∀i v,Pr i v->j1 (val i) v=bi/\v.scannable=bi)(hb:n+1<acG) :
  ∀(k i:Nat) (s:ey),n-i=k->i<=n->St i s->s.heap.SetOf (cF P w) S (λa=>(dG val i).any λx=>bd<|x=a) (dG val i).length ->
   (∀s',Moved (S::wr) G s s'->s'.heap.SetOf (cF P w) S (λa=>(dG val n).any λx=>bd<|x=a) (dG val n).length->R (.ok<|.ret .none) s') ->
   Zp (k5 P w) A (.builtin "set.update.loop" ⟨[.ref S,.ref I],[]⟩) R s:=by
 have hw:S∉wr:=λh=>B<|W.sub _ h;have C:∀b∈wr,b∈S::wr:=λb z=>eR _ z;intro k;induction k with
 | zero =>
  intro i s N O st j l;obtain rfl:i=n:=by lia
  apply YE YP;refine cW (W.done s _ _ st λs' c=>?_);refine fm<|l s' (c.mono C) ?_;obtain⟨o,p,ep,t,q,r⟩:=j;exact⟨o,p,ep,t,c.heap S _ hw q,r⟩
 | succ k Q =>
  intro i s N O st j l;have d:i<n:=⋯;apply YE YP;refine cW (W.item i s _ _ d st λv s' T D c=>?_);obtain⟨f,H⟩:=M i v T;have J:s'.heap.SetOf (cF P w) S (λa=>(dG val i).any λx=>bd<|x=a) (dG val i).length:=by obtain⟨o,p,ep,U,q,r⟩:=j;exact⟨o,p,ep,U,c.heap S _ hw q,r⟩
  refine cW<|u5 ?_;unfold setAdd;refine u5<|cW<|(cF P w).pyHash f ?_;have room:(dG val i).length+1<scanBound:=by have:=AB val i;lia
  refine wpAny_setAddHashed_of f H J room λh' g hS2=>?_;have K:h'.SetOf (cF P w) S (λa=>(dG val<|i+1).any λx=>bd<|x=a) (dG val<|i+1).length:=by rw[CS,B7];have e:(λa=>(dG val i).any (λx=>bd<|x=a)||bd (a=val i))=λa=>(ie (dG val i)<|val i).any λx=>bd (x=a):=funext λa=>(IS _ _ _).symm;simp_all
  refine fm ⟨abe Xz _,Q (i+1) _ (by omega) d (W.frame _ s' _ _ D (Zq _) λb z o e=>?_) K λL u y=>?_⟩
  ·rwa[g.2 b (λh:b=S=>B<|h ▸ z)]
  refine l L (Moved.trans W.gtrans ((c.mono C).then_heap (Zq _) λb o z e=>?_) u) y;rwa[g.2 b (λh:b=S=>z<|h ▸ fk)]
def Oz (hh:A.handled=am)(hl:s.heap.IsList l items)(m:∀i v,items[i]?=al v->j1 (val i) v=bi/\v.scannable=bi)(p:items.size+1<acG)(h:∀(h':ph) (tk:Nat),h'.SetOf (cF P w) s.heap.objs.size (λa=>(dG val items.size).any λx=>bd<|x=a) (dG val items.size).length->(∀b o,b<s.heap.objs.size->s.heap.get? b=al o->h'.get? b=al o)->Q (.ref s.heap.objs.size) {s with heap:=h',toks:=tk}) :
  hX (k5 P w) A (call (.type "set") [.ref l]) Q E s:=by
 refine PR hl (λled R I h1 eh c f d g hit k=>?_) h;have j:A.in1.in1.in1.handled=am:=by simp[hh]
 exact QL ((Walks.list j _ l c items).toS) s.heap.objs.size f val m p (items.size-0) 0 _ ⋯ (pd _) ⟨hit,g⟩ ⟨_,#[],0,_,d,⟨ρ,ρ,ρ⟩,ρ,λe q=>by simp at q,λk=>by simp[dG],⋯,by rfl,rfl⟩ k
def Ag(P:kH)(w:pe)(a:dn)(n:Nat):HO:=.ext λh=>n<4096/\∃S,h.SetOf (cF P w) a S n
def mw(ys:List e6):Nat:=(dG (λi=>uy<|(ys[i]?).getD XC) ys.length).length
def K4(m:X.calm=bi):bP X (.type "set") (λxs H Q=>∃(p:dn) (ys:List e6),xs=[.ref p]/\Rd H p (.L<|ys.map V.str)/\ys.length<1000/\∀a,H a=am->Q (.ref a) (upd H a<|Ag X.prog X.w a<|mw ys)):=by
 intro pins s σ H xs us Q I r h;obtain⟨p,ys,rfl,x,hz,q⟩:=h;obtain⟨u,rfl,y⟩:=r.one;subst y;obtain⟨z,its,n,f,e⟩:=x.ok I.ak;have B:s.heap.IsList p its.toArray:=⟨_,e,ρ,n,ρ⟩;have g:its.length=ys.length:=by have:=f.length;simpa using this.symm
 refine Oz (val:=λi=>uy<|(ys[i]?).getD XC) (I.ok.hd m) B (λi v C=>?_) (by rw[gs];unfold acG;omega) λh' tk c D=>?_
 ·obtain⟨t,rfl⟩:=Cs f (show its[i]?=al v by simpa using C);exact⟨G7 _ t,ρ⟩
 have hsz:its.toArray.size=ys.length:=by rw[gs];exact g
 rw[hsz] at c;refine⟨.ref s.heap.objs.size,upd H s.heap.objs.size<|Ag X.prog X.w s.heap.objs.size<|mw ys,?_,ρ,q _<|I.ak.fresh (a:=s.heap.objs.size)<|fj _⟩;have hle:mw ys<=ys.length:=AB _ _;refine I.laid (λb o j=>D b o (gg j) j) (fj _) ⟨⟨by lia,_,c⟩,?_,λh1 h2 ⟨J,S,o,l,ep,t,d,r⟩ k=>⟨J,S,o,l,ep,t,k o d,r⟩⟩;obtain⟨o,l,ep,t,d,_⟩:=c;exact⟨o,d⟩
def HX:bP X (.builtin "len") (λxs H Q=>∃(a:dn) (n:Nat),xs=[.ref a]/\H a=al (Ag X.prog X.w a n)/\Q (.int n) H):=by intro pins s σ H xs us Q I r h;obtain⟨a,n,rfl,c,q⟩:=h;obtain⟨u,rfl,d⟩:=r.one;subst d;obtain⟨⟨hn,S,o,e,ep,t,f,b,hd,hel,hmem,hb,g,hsz⟩,_,_⟩:=I.ak a _ c;subst hsz;exact call_len_set f b hd g (by lia) ⟨.int e.size,H,I.tok _,⟨_,ρ⟩,q⟩
def vZ(f:DF):DF:=λZ=>(f Z).bind λp=>match p.1 with
 | .L ds=>(dH ds).bind λys=>if ys.length<1000 then al (.int (mw ys:Nat),p.2) else am
 | _=>am
def NQ (y:X.calm=bi)(z:Gl X "len")(B:X.mg "len"=am)(m:Gl X "set")(o:X.mg "set"=am)(j:bN X e [])(q:nk [.Call (.Name "set" l) [e] [] i] X.env=(false,eval (.Call (.Name "set" l) [e] [] i) X.env)::nk [] X.env)(h:DD X e f):DD X (.Call (.Name "len" p) [.Call (.Name "set" l) [e] [] i] [] pos) (vZ f):=by
 obtain⟨t,pt,C⟩:=h;refine⟨_,wd HX z B aaq (gw (uT (K4 y) m o ρ (gw pt il j) ⋯ ρ j ρ) il q) ⋯ ρ q ρ,λD F Z σ H Hi d Z' Q g S k=>?_⟩;obtain⟨c,Z1,J,g⟩:=oB g;dsimp only at g;split at g
 ·obtain⟨ys,K,g⟩:=oA g;split at g
  ·rename_i L;obtain⟨rfl,rfl⟩:=sP g;refine C D F Z σ H Hi _ _ _ J S λv H1 r u M N=>?_;obtain⟨a,ws,rfl,x,rs⟩:=N;rw[lH K rs] at x;refine⟨a,ys,ρ,Rd.mono u.sub x,L,λb O=>⟨b,mw ys,ρ,aT,?_⟩⟩;exact k _ _ r (u.made O) M ρ
  exact nO g
 exact nO g
structure Jl (mg:e6->Option cA):Prop where
 any:mg "any"=am
 sum:mg "sum"=am
 set:mg "set"=am
 enum:mg "enumerate"=am
theorem GJ (put:c->DS)(keep:c->Bool)(val:c->Dat):∀(xs:List c) (a:List Dat) (Z:DS),a.length+xs.length<=dk ->
  (∀x∈xs,∀Z,(Z=i\/∃y,Z=put y)->g (enc x) Z=al (put x))->(∀x∈xs,fc (put x)=al (keep x,put x))->(∀x∈xs,keep x=bi->fe (put x)=al (val x,put x))->(∀x∈xs,noOwn (put x)=bi)->(Z=i\/∃y,Z=put y) ->
  ∃Z',compLoop g fc fe (xs.map enc) a Z=al (a++(xs.filter keep).map val,Z')
 | [],a,Z,_,_,_,_,_,_=>⟨Z,by simp[compLoop]⟩
 | x::xs,a,Z,t,j,k,l,m,hd=>by
  simp at t;have o:=j x (fk ..) Z hd;have p:=k x<|fk ..;have q:=m x<|fk ..;have d:=λf (r:f.length+xs.length<=dk)=>GJ put keep val xs f (put x) r (λy b=>j y<|eR _ b) (λy b=>k y<|eR _ b) (λy b=>l y<|eR _ b) (λy b=>m y<|eR _ b)<|τ ⟨x,ρ⟩;cases h:keep x with
  | false=>obtain⟨Z',e⟩:=d a (by omega);refine⟨Z',?_⟩;show (g (enc x) Z).bind _=_;rw[o];show (fc<|put x).bind _=_;rw[p,h];show (if noOwn (put x)=bi then compLoop g fc fe (xs.map enc) a (put x) else am)=_;rw[if_pos q,e,u4,h];simp
  | true=>obtain⟨Z',e⟩:=d (a++[val x]) (by rw[eW];simp;omega);refine⟨Z',?_⟩;show (g (enc x) Z).bind _=_;rw[o];show (fc<|put x).bind _=_;rw[p,h];show (fe<|put x).bind _=_;rw[l x (fk ..) h];show (if a.length<dk/\noOwn (put x)=bi then _ else am)=_;rw[if_pos ⟨by omega,q⟩,e,u4,h];simp
def k9{a:Type}{enc:a->Dat}{caps:List (Option Nat)}{fi:IF}{g:GF}{fc:BF}{fe:DF}{xs:List a}{Z Z1 Z2:DS}(put:a->DS)(keep:a->Bool)(val:a->Dat)(b:fi Z=al (xs.map enc,Z1))(c:aV am caps Z1=Z2)(d:xs.length<=dk)
 (f:∀x∈xs,∀Z,(Z=b8 caps Z2\/∃y,Z=put y)->g (enc x) Z=al (put x))(h:∀x∈xs,fc (put x)=al (keep x,put x))(i:∀x∈xs,keep x=bi->fe (put x)=al (val x,put x))(j:∀x∈xs,noOwn (put x)=bi) :
  dJ caps am fi g fc fe Z=al (.O<|.L<|(xs.filter keep).map val,Z2):=by
 obtain⟨Z',e⟩:=GJ put keep val xs [] (b8 caps Z2) (by simpa using d) f h i j<|ι ρ;exact D0 b c e
def gS{a:Type}{enc:a->Dat}{caps:List (Option Nat)}{fi:IF}{g:GF}{fe:DF}{xs:List a}{Z Z1 Z2:DS}(put:a->DS)(val:a->Dat)(b:fi Z=al (xs.map enc,Z1))(c:aV am caps Z1=Z2)(d:xs.length<=dk)
 (e:∀x∈xs,∀Z,(Z=b8 caps Z2\/∃y,Z=put y)->g (enc x) Z=al (put x))(f:∀x∈xs,fe (put x)=al (val x,put x))(h:∀x∈xs,noOwn (put x)=bi) :
  dJ caps am fi g (λZ=>al (true,Z)) fe Z=al (.O<|.L<|xs.map val,Z2):=by
 have:=k9 (enc:=enc) (caps:=caps) (fi:=fi) (g:=g) (fc:=λZ=>al (true,Z)) (fe:=fe) (xs:=xs) (Z:=Z) put (λ_=>true) val b c d e (λ_ _=>rfl) (λx hx _=>f x hx) h;rw[abk.2 (by intros;rfl)] at this;exact this
theorem Dy (f):∀cs:List a,oh (cs.map λc=>.int<|f c)=al (cs.map f)
 | []=>rfl
 | c::cs=>by show (oh (cs.map λc=>.int<|f c)).map (f c::·)=_;rw[Dy f cs];rfl
theorem qN (f):∀cs:List a,dH (cs.map λc=>.str<|f c)=al (cs.map f)
 | []=>rfl
 | c::cs=>by show (dH (cs.map λc=>.str<|f c)).map (f c::·)=_;rw[qN f cs];rfl
def Jj{a:Type}(f:a->Bool)(cs:List a):pV [.L (cs.map λc=>.bl<|f c)]=al (.D<|.bl<|cs.all f):=by show (j4 _).map _=_;rw[vU f];simp
def QR{a:Type}(f:a->Bool)(cs:List a):vG [.L (cs.map λc=>.bl<|f c)]=al (.D<|.bl<|cs.any f):=by show (j4 _).map _=_;rw[vU f];simp
def Sj (f)(h:cs≠[]):uQ [.L (cs.map λc=>.int<|f c)]=al (.D<|.int<|iC<|cs.map f):=by show (oh _).bind _=_;simp_all [Dy]
def DM{a:Type}{f:DF}{Z Z1:DS}{cs:List a}(g:a->e6)(h:f Z=al (.L (cs.map λc=>.str<|g c),Z1))(hz:cs.length<1000):vZ f Z=al (.int (mw (cs.map g):Nat),Z1):=by simp_all [vZ,qN]
theorem Hc:∀(more a:List (Key×V)),((a++more).map (·.1)).Nodup->mz a more=a++more
 | [],a,_=>by show a=_;rw[sb]
 | p::r,a,h=>by
  have e:putK a p.1 p.2=a++[p]:=by
   delta putK;rw[if_neg];intro z;obtain⟨q,b,e⟩:=n4.1 z;have e:q.1=p.1:=by simpa using e
   rw[gf,lp] at h;exact h.2.2 q.1 (bg.2 ⟨q,b,ρ⟩) p.1 (by simp) e
  show mz (putK a p.1 p.2) r=_;simp only[e,Hc r (a++[p]) (by rw[um];exact h),um];rfl
noncomputable def qG:List Dat->Option Res
 | [.L ds]=>al (.D<|.U ds)
 | _=>am
def Lx (a:Gl X "tuple")(b:X.mg "tuple"=am)(c:bN X e [])(d:DA X [e] fa):DE X (.Call (.Name "tuple" p) [e] [] pos) (cb qG fa):=tz G9 (by
  intro H0 ps Z σ H Hi vs ds o Q e S r k;delta qG at e;split at e
  ·obtain rfl:=sO e;obtain⟨v,vr,rfl,⟨a,b,rfl,d,rs⟩,f⟩:=r;subst f;refine⟨a,b,ρ,ι ⟨ι<|Rd.mono S.sub d,λl hl=>?_⟩⟩;obtain⟨g,c⟩:=S.laid hl;exact k (.ref l) _ _ g c ⟨l,_,ρ,aS.of aT,aw.mono c rs⟩
  exact nO e) a b (by decide +kernel) d ⋯ ρ c ρ
end
section
open Sem (wp)
def Dh:entryFor table "dict.update.loop"=al Yy.«dict.update.loop»:=entryFor_of_tree (by kernel_rfl)
def uD:plainId "dict.update.loop"=bi:=by decide +kernel
def Pe (hx:s.heap.IsList a xs)(hd:∀o,s.heap.get? a=al o->o.dict=am)(i:aaV (.type "list") name=pure am)(j:(["__module__","__name__","__qualname__","__doc__","__annotations__"]:List e6).contains name=bn)(q:A.handled=am)(h:∀h' tk,(∀b o,s.heap.get? b=al o->h'.get? b=al o)->Q am {s with heap:=h',toks:=tk})(hsz:name.length+100<=sizeLine:=by size_fits) :
  hX (k5 prog w) A (getAttr? (.ref a) name) Q E s:=by
 obtain⟨o,hx,n,k,f⟩:=hx;have hd:=hd o hx;obtain⟨c,bV,D,r⟩:=o;subst n f hd;obtain⟨t,g,d,tk,os⟩:=s;have p:∀l,(⟨t,g,d,l,os⟩:ey).TypeIs (.ref a) "list":=λ_=>⟨_,hx,ρ⟩;have f1:=sub_AttributeError;have f3:=aa0.lookup;have f4:=F.slot_list_getattribute.bind<|.ref a;have f5:=am_list_getattr_none;unfold getAttr? getAttrBy? getAttrBy
 repeat (any_goals (first|assumption|exact p _|((with_reducible show hX _ _ (call (Value.builtin "list.__getattribute__") _ _) _ _ _);refine YV aa0 (p _) am_entry_list_getattribute (F.args_list_getattribute_2 _ _) (meets_getattribute_miss_list a xs k r name _ i j hsz) ⟨hx,q,λh' l e m=>?_⟩)|wp_step))
 obtain⟨t',u',he⟩:=m.there;show hX _ _ (ach _ _ _ _ _ _ _) _ _ _;unfold ach
 repeat (any_goals (first|assumption|wp_step))
 exact h _ _ m.of.keeps
section
variable{prog:kH}{w:pe}{K:Type}[DecidableEq K]{knd:KeyKind prog w K}{A:qp}{E:cA->ey->Prop}{s:ey}
def Nj (h:Yk s.heap a #[k,v])(q:Q [k,v] s):hX (k5 prog w) A (Z7<|.ref a) Q E s:=by obtain⟨o,b,c,n,hd⟩:=h;refine cW<|abv (⟨o,b,c⟩) ?_;refine cW<|wpAny_seqItems b hd ?_;exact fm q
structure zT (knd:KeyKind prog w K) (h:ph) (u:cA) (kv:K×cA) (a:dn) (k:cA):Prop where
 at_:u=.ref a
 U:Yk h a #[k,kv.2]
 key:knd.is kv.1 k=bi
theorem Nt (hh:A.handled=am)(z:l≠I)(q:d≠I)(O:d≠l)(hl:more.length=items.size)(hz:more.length<=dk) :
  ∀(m i:Nat) (s:ey),items.size-i=m->i<=items.size->s.heap.IsListIter I l i->s.heap.IsList l items->s.heap.DictOf knd d (abA []<|more.take i) ->
   (∀(j:Nat) (u:cA) (y:K×cA),items[j]?=al u->more[j]?=al y->∃a k,zT knd s.heap u y a k/\a≠I/\a≠d) ->
   (∀h' tk,h'.DictOf knd d (abA [] more)->(∀b o,b≠I->b≠d->s.heap.get? b=al o->h'.get? b=al o)->R (.ok<|.ret .none) {s with heap:=h',toks:=tk}) ->
   ∀(n:Int) (t:Tok),Zp (k5 prog w) A (.builtin "dict.update.loop" ⟨[.ref d,.ref I,.int n t,.none],[]⟩) R s:=by
 intro m;induction m with
 | zero=>intro i s hm hi st F hd G H n t;have P:i=items.size:=⋯;subst P;apply YE Dh;delta Yy.«dict.update.loop»;have W:=Walks.list (prog:=prog) (w:=w) (A:=A.in1) (by simp[hh]) I l z items;refine cW (W.done s _ _ ⟨st,F⟩ λh' tk k=>?_);refine cW<|fm ?_;rw[X7 (by lia)] at hd;refine fm (H h' tk ?_ λb o g J e=>k b o (by simpa using g) e);obtain⟨o,L,ep,c,r⟩:=hd;exact⟨o,L,ep,k d o (by simpa using q) c,r⟩
 | succ m ih =>
  intro i s hm hi st F hd G H n t;have B:i<items.size:=⋯;apply YE Dh;delta Yy.«dict.update.loop»;have W:=Walks.list (prog:=prog) (w:=w) (A:=A.in1) (by simp[hh]) I l z items;refine cW (W.item i s _ _ B ⟨st,F⟩ λv g tk hv C k1=>?_);have D:more[i]?=al more[i]:=cn ⋯;obtain⟨a,k,M,na,nd⟩:=G i v _ hv D;have ev:=M.at_;subst ev;have x:∀b o,b≠I->s.heap.get? b=al o->g.get? b=al o:=λb o h e=>k1 b o (by simpa using h) e;have Q:g.DictOf knd d (abA []<|more.take i):=by obtain⟨o,L,ep,c,r⟩:=hd;exact⟨o,L,ep,x d o q c,r⟩
  have S:Yk g a #[k,more[i].2]:=by obtain⟨o,c,r⟩:=M.U;exact⟨o,x a o na c,r⟩
  have hsz:(abA []<|more.take i).length<=sizeLine:=by have:=merged_length_le ([]:List (K×cA))<|more.take i;simp at this;lia
  refine cW<|u5<|cW<|wpAny_tryCatch<|Nj S ?_;refine u5 (wpAny_dictSet_pairs M.key Q λJ T N=>?_);have U:∀b o,b≠I->b≠d->s.heap.get? b=al o->J.get? b=al o:=λb o h f e=>(N.2 b f).trans (x b o h e);refine fm ⟨abe uD _,ih (i+1) {s with heap:=J,toks:=tk+1} ⋯ B ?_ ?_ ?_ ?_ ?_ _ _⟩
  ·obtain⟨o,c,r⟩:=C.1;exact⟨o,(N.2 I<|Ne.symm q).trans c,r⟩
  ·obtain⟨o,c,r⟩:=C.2;exact⟨o,(N.2 l<|Ne.symm O).trans c,r⟩
  ·rwa[merged_take_succ _ _ _ _ D]
  ·intro j u y hu V;obtain⟨a,k,p,X,Y⟩:=G j u y hu V;refine⟨a,k,⟨p.at_,?_,p.key⟩,X,Y⟩;obtain⟨o,c,r⟩:=p.U;exact⟨o,U a o X Y c,r⟩
  exact λh' Z be k'=>H h' Z be λb o h f e=>k' b o h f<|U b o h f e
def Sn (hh:A.handled=am)(x:s.heap.IsList l items)(hd:∀o,s.heap.get? l=al o->o.dict=am)(hl:more.length=items.size)(J:more.length<=dk)(L:∀(j:Nat) (u:cA) (n:K×cA),items[j]?=al u->more[j]?=al n->∃a k,zT knd s.heap u n a k)(h:∀h' tk,h'.DictOf knd s.heap.objs.size (abA [] more)->(∀b o,s.heap.get? b=al o->h'.get? b=al o)->Q (.ref s.heap.objs.size) {s with heap:=h',toks:=tk}) :
  hX (k5 prog w) A (call (.type "dict") [.ref l]) Q E s:=by
 apply callType_codes (Q₁:=λobj g=>obj=.ref s.heap.objs.size/\g={s with heap:=s.heap.push {cls:=.type "dict",data:=.dict #[]} }) F.kt_called_dict (F.kt_typeCall_dict_1 _) F.entry_dict_init<|kt_code_dict_new _ ⟨ρ,ρ⟩;rintro obj g ⟨rfl,rfl⟩;have d:(s.heap.push {cls:=.type "dict",data:=.dict #[]}).DictOf knd s.heap.objs.size []:=adh s.heap;have i:=x.push {cls:=.type "dict",data:=.dict #[]};have q:=let ⟨_,c,_⟩:=x;gg c
 have z:∀o,(s.heap.push {cls:=.type "dict",data:=.dict #[]}).get? l=al o->o.dict=am:=λo e=>by obtain⟨o',c,r⟩:=x;rw[e7 _ c] at e;obtain rfl:=sO e;exact hd _ c
 refine⟨d.typeIs,F.args_dict_init_2 _ _,?_⟩;delta Yy.«dict.__init__»;apply cW;refine cW<|abO d.typeIs ?_;apply fm;refine cW<|abv i.typeIs ?_;refine cW<|Pe i z (by rw[typeLookup_type,builtinLookup_eq_fast];kernel_rfl) (by decide +kernel) (by simp[hh]) (λm tk y=>?_) (by decide +kernel);refine cW<|wpAny_rule ?_;have t:m.IsList l items:=by obtain⟨o,c,r⟩:=i;exact⟨o,y _ _ c,r⟩
 refine cW<|XQ (s:={s with heap:=m,toks:=tk}) t ?_;have v:m.DictOf knd s.heap.objs.size []:=by obtain⟨o,B,ep,c,r⟩:=d;exact⟨o,B,ep,y _ _ c,r⟩
 have f:s.heap.objs.size<m.objs.size:=by obtain⟨o,B,ep,c,r⟩:=v;exact gg c
 have C:∀b o,s.heap.get? b=al o->m.get? b=al o:=λb o e=>y b o<|e7 _ e;refine fm ⟨abe uD _,?_⟩;refine Nt (knd:=knd) (by simp[hh]) (hQ<|Zc q f) (hQ f) (ZX q) hl J items.size 0 _ ⋯ (pd _) ⟨_,ib _ ρ,ρ,ρ⟩ (t.push _) ?_ ?_ ?_ _ _
 ·exact v.push _
 ·intro j u n M D;obtain⟨a,k,p⟩:=L j u n M D;have G:=let ⟨_,c,_⟩:=p.U;gg c
  refine⟨a,k,⟨p.at_,?_,p.key⟩,hQ<|Zc G f,hQ G⟩;obtain⟨o,c,r⟩:=p.U;exact⟨o,e7 _<|C _ _ c,r⟩
 intro h' H I N;refine⟨ρ,h h' H I λb o e=>N b o ?_ ?_<|e7 _<|C _ _ e⟩
 ·exact hQ<|Zc (gg e) f
 exact hQ<|gg e
end
end
section
variable{X:Cx}{pins:List (dn×Th)}{σ:St}{H:Hp}{s:ey}{pos:H9}
def nA(K:ft)(H:Hp)(r:V)(b:Key×V):Prop:=∃a,r=.ref a/\aS K H a [kV b.1,b.2]
theorem L7(I:Inv X pins σ H s){b:List V}{its:List cA}{kvs:List (Key×V)}(d:aC b its)(c:XW (nA X.K H) b kvs):∃more:List (Key×cA),KV kvs more/\XW (fun u e=>∃a k,zT (cF X.prog X.w) s.heap u e a k) its more:=by
 induction d generalizing kvs with
 | nil=>cases c;exact⟨[],.nil,.nil⟩
 | cons f _ g =>
  cases c with
  | cons h c =>
   obtain⟨more,i,j⟩:=g c;obtain⟨a,rfl,l⟩:=h;subst f;obtain⟨its',m,U,_⟩:=I.tuple l;cases m with
   | cons n o =>
    cases o with
    | cons p q =>
     cases q;rename_i k v;exact⟨(_,v)::more,.cons ⟨ρ,p⟩ i,.cons ⟨a,k,ρ,by simpa using U,pj n⟩ j⟩
theorem D2{c d:Type}{F:c->d->Prop}{l₁:List c}{l₂:List d}(p:XW F l₁ l₂):∀(j:Nat) a b,l₁[j]?=al a->l₂[j]?=al b->F a b:=by
 induction p with
 | nil=>intro j a b h;simp at h
 | cons hf _ e =>
  intro j a b h h';cases j with
  | zero=>simp_all
  | succ j=>exact e j a b (by simpa using h) (by simpa using h')
theorem wL{a b:Type}{F:a->b->Prop}{l₁:List a}{l₂:List b}(p:XW F l₁ l₂):l₁.length=l₂.length:=by
 induction p with
 | nil=>rfl
 | cons _ _ c=>exact congrArg (·+1) c
def C0(K:ft):List V->Hp->VK->Prop:=λxs H Q=>∃p a kvs,xs=[.ref p]/\Rd H p (.L a)/\XW (nA K H) a kvs/\∀q,H q=am->Q (.ref q) (upd H q<|.dK<|mz [] kvs)
def Pg(te:TE):TI:=fun σ H R=>te σ H λv a=>∃d o kvs,v=.ref d/\a d=al (.aV o<|.dK kvs)/\R (Fq d o kvs) a
def JQ (m:PE X e te):PI X l e (Pg te):=by refine λpins s σ H R I h=>aD (m pins s σ H _ I h) λv a g=>?_;obtain⟨y,H1,c,n,p⟩:=g;obtain⟨d,o,kvs,rfl,hd,q⟩:=p;subst n;obtain⟨i,z,lo,vs,r,j⟩:=c.ak d _ hd;obtain⟨ep,D⟩:=j.dictAt;obtain⟨o',t,f,g⟩:=id D;rw[i] at f;obtain rfl:=sO f;have u:∀h:ph,h.get? d=al o->h.DictAt (cF X.prog X.w) d vs ep:=λh e=>⟨o,t,e,g⟩;refine wpAny_pyIter_dict lo D ⟨a.heap.objs.size,[a.heap.objs.size],_,_,_,ρ,c.kept λb o e=>e7 _ e,RZ r (hQ<|gg i) u,⟨_,ib _ ρ,ρ,ρ⟩,λb x=>?_,q⟩;rw[show b=a.heap.objs.size by simpa using x];exact c.mm (fj _)<|c.ak.fresh<|fj _
noncomputable def nN:List Dat->Option (List<|e6×Dat)
 | []=>al []
 | .U [.str k,d]::r=>(nN r).map λa=>(k,d)::a
 | _=>am
def vJ:List Dat->Option Res
 | [.bV a]=>al (.O<|.bV a)
 | [.L ds]=>(nN ds).bind λa=>if (a.map (·.1)).Nodup then al (.O<|.bV a) else am
 | _=>am
theorem Fm{K:ft}{H:Hp}:∀{ds:List Dat}{vs:List V}{b:List (e6×Dat)},nN ds=al b->aw K H ds vs->∃kvs,bC K H b kvs/\XW (nA K H) vs kvs
 | [],_,_,e,r=>by obtain rfl:=sO e;cases (r);exact⟨[],ρ,.nil⟩
 | d::ds,_,_,e,r=>by
  unfold nN at e;split at e;simp_all
  ·rename_i k d' r' h;cases h;obtain⟨b,f,e⟩:=oM e;obtain rfl:=sO e;obtain⟨v,vr,rfl,⟨a,ws,rfl,g,rs⟩,i⟩:=r;obtain⟨kvs,j,l⟩:=Fm f i;obtain⟨v1,r1,rfl,m,c,r2,rfl,n,o⟩:=rs;subst m;cases (o);exact⟨(uy k,c)::kvs,⟨c,kvs,ρ,n,j⟩,.cons ⟨a,ρ,g⟩ l⟩
  exact nO e
def nA.mono{K:ft}{H H':Hp}(s:ag H H'){vs:List V}{kvs:List (Key×V)}(h:XW (nA K H) vs kvs):XW (nA K H') vs kvs:=Paired.qH h λ_ _ ⟨a,e,q⟩=>⟨a,e,aS.mono s q⟩
def Iq:CD X (λxs H Q=>(λxs H Q=>∃a kvs,xs=[.ref a]/\Rd H a (.dK kvs)/\∀p,H p=am->Q (.ref p) (upd H p<|.dK kvs)) xs H Q\/C0 X.K xs H Q) vJ:=by
 intro f g Z σ H Hi vs ds o Q e S r k;delta vJ at e;split at e
 ·rename_i c;exact ι<|KG f g Z σ H Hi vs [.bV c] o Q e S r k
 ·obtain⟨c,i,e⟩:=oA e;split at e
  ·rename_i nd;obtain rfl:=sO e;obtain⟨v,vr,rfl,⟨p,j,rfl,l,rs⟩,m⟩:=r;subst m;obtain⟨kvs,d,n⟩:=Fm i rs;have t:(kvs.map (·.1)).Nodup:=by rw[rG d];exact hI.2 (nd.imp λh z=>h<|Sum.inr.inj z)
   refine τ ⟨p,j,kvs,ρ,Rd.mono S.sub l,nA.mono S.sub n,λq b=>?_⟩;simp[Hc kvs [] (by simpa using t),List.nil_append];exact k (.ref q) _ Hi (S.made b) (ag.refl _) ⟨q,ρ,⟨kvs,aT,d,S.cX b⟩,(S.bB b).2,(S.bB b).1,S.dO b⟩
  exact nO e
 exact nO e
def LA (a:X.calm=bi)(b:Gl X "dict")(c:X.mg "dict"=am)(d:bN X e [])(f:DA X [e] fa):DE X (.Call (.Name "dict" p) [e] [] pos) (cb vJ fa):=tz (bP.or MT ((λf=>by
  intro pins s σ H xs us Q I r h;obtain⟨p,rows,kvs,rfl,g,c,q⟩:=h;obtain⟨u,rfl,i⟩:=r.one;subst i;obtain⟨z,its,n,k,d⟩:=g.ok I.ak;obtain⟨more,b,pm⟩:=L7 I k c;have l:=wL pm;have e2:=wL b;have e3:=wL c;have m:(mz [] kvs).length<=sizeLine:=by have:=FR kvs [];simp at this;omega
  refine Sn (I.ok.hd f) ⟨_,d,ρ,n,ρ⟩ (λo e=>by rw[d] at e;obtain rfl:=sO e;rfl) (by simp[l]) (by omega) (λj u b t v=>D2 pm j u b (by simpa using t) v) λh' tk dd kp=>?_
  exact⟨.ref s.heap.objs.size,_,I.laid kp (fj _)<|Be m (beq_eq_false_iff_ne.2<|Ne.symm<|hQ I.zO) (b.merge .nil) dd,ρ,q _<|I.ak.fresh<|fj _⟩) a)) Iq b c (by decide +kernel) f ⋯ ρ d ρ
noncomputable def G5(i:Nat):IF:=λZ=>match Z[i]? with
 | some (.D<|.d9 a)=>al (a.map λk=>.str k.1,Z)
 | _=>am
theorem Uk (hx:gX x)(t:X.N.findIdx? (·==x)=al i)(u:cj X.env.scope x)(hd:bD x)(h:cH x):cO X q (.Name x r) (G5 i):=by
 refine⟨_,JQ<|fh (dZ t) u hd h,λH0 ps Z σ H Hi items Z' R b S k=>?_⟩;unfold G5 at b;split at b
 ·rename_i l e;obtain⟨rfl,rfl⟩:=sP b;obtain⟨v,w,p,o,kvs,rfl,f,g⟩:=S.D i _ e;refine⟨_,w,p,o,kvs,ρ,S.sub _ _ f,k _ _ _ S (ag.refl _) λj H2 m=>⟨λd c=>?_,λhl=>⟨m _ _ f,?_⟩⟩⟩
  ·have z:j<l.length:=by have:=(cm.1 c).1;simpa using this
   refine⟨⟨m _ _ f,by rw[bC.length g];exact z⟩,λv H3 A=>ι ?_⟩;obtain⟨rfl,B,xx,C,rfl⟩:=A;refine⟨ρ,?_⟩;have a:(kvs.map (·.1))[j]?=al B:=by rw[c6,C];rfl
   simp only[rG g,c6] at a;rw[c6] at c;cases n:l[j]? with
   | none=>rw[n] at a;exact nO a
   | some y=>rw[n] at a c;obtain rfl:=sO a;obtain rfl:=sO c;rfl
  have hl':=bC.length g;simp_all
 exact nO b
end
section
open Sem (wp)
structure qv (h:ph) (d:dn) (es:Array Yv) (ep:Nat):Prop where
 ok:∃o,h.get? d=al o/\o.ExactDict/\o.data=.dict es ep
section
variable{prog:kH}{w:pe}{A:qp}{E:cA->ey->Prop}{s:ey}
def qv.ty (h:qv s.heap d c ep):s.TypeIs (.ref d) "dict":=let ⟨o,a,b,_⟩:=h.ok;⟨o,a,b.1⟩
theorem LZ{d:dn}{a:Array Yv}{ep:Nat}{Q:cA->ey->Prop}(hd:(d==Xm)=bn)(r:qv s.heap d a ep)
 (q:Q (.ref s.heap.objs.size) {s with heap:=s.heap.push {cls:=.type "dict_keyiterator",data:=.fields #[.ref d,.int 0 0,.int a.size 0,.int ep 0]} }):hX (k5 prog w) A (acg<|.ref d) Q E s:=by
 have ty:=r.ty;obtain⟨o,b,e2,c⟩:=r.ok;refine wpAny_pyIter_slot ty ack<|P' ack ty F.entry_dict_iter ?z<|F.args_dict_iter_1 _;delta Yy.«dict.__iter__» ac0;refine cW<|cW<|abO ty ?B;refine (fm ?C);refine (show hX _ _ (aae d >>= _) _ _ s from ?D);delta aae;rw[if_neg (by simp_all)];refine cW<|fm<|cW<|Y2 b c<|cW<|aaN b c<|cW<|WV<|fm ⟨_,ρ,"dict_keyiterator",_,⟨_,ib _ ρ,ρ⟩,T'.lookup,?G⟩;simpa[abz] using q
def NT (hit:s.heap.IsKeyIter it d i a.size ep)(r:qv s.heap d a ep)(f:i<a.size)(q:∀h',h'.IsKeyIter it d (i+1) a.size ep->Y3 it s.heap h'->Q (al a[i].key) {s with heap:=h'}):hX (k5 prog w) A (Zn<|.ref it) Q E s:=by
 have ty:=hit.typeIs;obtain⟨x,e,j,b⟩:=id hit;obtain⟨o,g,e2,h⟩:=r.ok;have O:Y4 "dict_keyiterator"=bn:=ρ;refine cW<|adm<|Yd ty T'<|P' T' ty aaC ?z<|aax _;refine cW<|fm<|cW<|cW ?D
 first|refine cW (XB ty<|fm ?B)|refine cW<|X5 ty<|fm ?B
 refine cW<|ac' e b ?G;refine (?H);refine cW<|fm<|cW<|Y2 g h ?I;rw[if_neg ⋯];refine cW<|fm<|cW<|aaN g h ?J;rw[if_neg ⋯];refine fm ?K;simp[qo f];refine cW ?L
 first|refine cW (XB ty<|fm ?C)|refine cW<|X5 ty<|fm ?C
 refine cW<|abP ty ?M;refine (show hX _ _ (setField (.ref it) 1 (abz<|(i:Int)+1) >>= _) _ _ s from cW<|ac9 e b (by simp) ?N);have c:(s.heap.update it (acw (·.setIfInBounds 1 (abz<|(i:Int)+1)))).IsKeyIter it d (i+1) a.size ep:=⟨_,aaW _ e<|Obj.isFreed_of_fields<|abG b _,(Obj.cls_mapFields ..).trans j,by rw[abG b];simp[abz]⟩;refine cW<|u5<|cW<|abP c.typeIs ?O;exact (fm<|fm ⟨_,ρ,fm<|q _ c<|aav ..⟩)
def Tr (hh:A.handled=am)(hit:s.heap.IsKeyIter it d i c.size ep)(r:qv s.heap d c ep)(e:c.size<=i)(q:∀h',Heap.ExtBut it s.heap h'->Q am {s with heap:=h'}):hX (k5 prog w) A (Zn<|.ref it) Q E s:=by
 have ty:=hit.typeIs;obtain⟨x,f,x2,g⟩:=id hit;obtain⟨o,h,e2,j⟩:=r.ok;have O:Y4 "dict_keyiterator"=bn:=⋯;unfold Zn;refine cW<|adm<|Yd ty T'<|P' T' ty aaC ?z<|aax _;refine cW<|fm<|cW<|cW ?D
 first|refine cW (XB ty<|fm ?B)|refine cW<|X5 ty<|fm ?B
 refine cW<|ac' f g ?G;refine (show hX _ _ (if (Xh d==Value.none)=bi then _ else _) _ _ s from ?H);refine cW<|fm<|cW<|Y2 h j ?I;rw[if_neg ⋯];refine cW<|fm<|cW<|aaN h j ?J;rw[if_neg ⋯];refine fm ?K;simp[aaS e];refine cW ?L
 first|refine cW (XB ty<|fm ?C)|refine cW<|X5 ty<|fm ?C
 refine (show hX _ _ (setField (.ref it) 0 .none >>= _) _ _ s from cW<|ac9 f g (by simp) ?M);refine (cW ?N);refine cW<|WV (cW<|wpAny_of_eq (a:=Value.none) ρ<|WV ?O (by size_fits)) (by size_fits);dsimp only[raiseNew];refine cW<|wpAny_handled ?P;rw[show A.in1.handled=am from hh];refine cW<|fm<|wpAny_throw ?R;exact cW<|wpAny_isInstance ⟨_,ib _ ρ,ρ⟩ isSubtype_stop<|fm<|q _<|((aav ..).extBut.push _).push _
def J' (hd:(d==Xm)=bn)(r:qv s.heap d a ep)(hz:(a.size:Int)<2 ^ 63)(q:∀t t',Q (.int a.size t) {s with toks:=t'}):hX (k5 prog w) A (call (.builtin "len") [.ref d]) Q E s:=by have ty:=r.ty;obtain⟨o,b,e2,c⟩:=r.ok;refine YH kind_len plain_len entry_len (args_len1 _) ?z;delta Yy.«len»;refine cW<|fm<|cW<|Yd ty acy<|P' acy ty F.entry_dict_len ?B<|F.args_dict_len_1 _;refine (show hX _ _ (dictSize d >>= _) _ _ s from ?C);refine cW<|cW<|Y2 b c<|fm ?D;refine (cW<|wpAny_pendingCount_other hd<|wpAny_ret_mkInt ?G);refine cW<|u5<|fm<|cW<|wpAny_letGo ?H;refine (?I);refine (show hX _ _ (if ((a.size:Nat):Int) ≥ 2 ^ 63 then _ else _) _ _ _ from ?J);rw[if_neg (by lia)];exact cW<|wpAny_mkInt<|fm ⟨_,ρ,q _ _⟩
end
end
noncomputable def zk(d:dn)(o:Th)(kvs:List (List Key×V))(bs:List dn):It:=⟨λi H=>H d=al (.aV o<|.dT kvs)/\i<kvs.length,λi H v H'=>H'=H/\∃b,bs[i]?=al b/\v=.ref b,λi H=>H d=al (.aV o<|.dT kvs)/\kvs.length<=i⟩
def nG(H:Hp)(kvs:List (List Key×V))(bs:List dn):Prop:=XW (λa b=>H b=al (.U<|a.1.map kV)) kvs bs
def KeysIn(a:Array Yv)(bs:List dn):Prop:=∀(i:Nat) (hi:i<a.size),∃b,bs[i]?=al b/\a[i].key=.ref b
section
variable{P:kH}{w:pe}{H:Hp}{h:ph}{d:dn}{X:Cx}{K:ft}{pos:H9}{H0:Hp×Hp}{Hi:Hp}{ps:Nat->Option dn}{Z:DS}{σ:St}
theorem tW (x:cB P w H h d (.dT kvs)):∃a ep o bs,h.get? d=al o/\o.ExactDict/\o.data=.dict a ep/\a.size=kvs.length/\nG H kvs bs/\KeysIn a bs:=by
 obtain⟨_,_,xs,b,o,a,ep,f,g,j,c,h5⟩:=x;have k:a.size=xs.length:=by simpa using congrArg List.length c
 have l:∀{kvs:List (List Key×V)}{xs:List (List Key×dn×cA)},XW (λ(p:List Key×V) (q:List Key×dn×cA)=>p.1=q.1/\H q.2.1=al (.U<|p.1.map kV)/\RelV p.2 q.2.2) kvs xs->nG H kvs (xs.map λx=>x.2.1):=λb=>by
  induction b with
  | nil=>exact .nil
  | cons h _ m=>exact .cons h.2.1 m
 refine⟨a,ep,o,xs.map λx=>x.2.1,f,g,j,by simp only[k,wL b],l b,λi n=>?_⟩;have hx:xs[i]?=al xs[i]:=cn ⋯;have e:a.toList[i]?=al a[i]:=by simp[n]
 simp only[c,c6,hx] at e;refine⟨xs[i].2.1,by rw[c6,hx];rfl,?_⟩;rw[<-Option.some.inj e];rfl
def Sv (J:l.size=n)(hne:d≠it)(m:o.data=.dict l ep)(a:KeysIn l bs) :
  Turn P w K R (zk d o kvs bs) [it] it (λi h=>h.IsKeyIter it d i n ep) where
 mem:=by simp
 obj:=λi h st b a=>by
  have e:b=it:=by simpa using a
  subst e;obtain⟨o,e,c,d⟩:=st;exact⟨o,e,λv z=>by rw[d] at z;contradiction⟩
 keep:=λi h h' st k=>by obtain⟨o,e,c,d⟩:=st;exact⟨o,k it (by simp) o e,c,d⟩
 item:=by
  intro X t hw u L i f s σ H E I p st x;subst t hw u J;obtain⟨y,A,S,B,C,D⟩:=p it (by simp);obtain⟨hd,T⟩:=x;obtain⟨g,ok⟩:=I.ak d _ hd;obtain⟨M,N,O,Q,j,F,g3,U,_,_⟩:=tW ok;rw[g] at j;cases j;rw[m] at g3;cases g3;have q:i<l.size:=by omega
  refine NT st ⟨o,g,F,m⟩ q λh' r Y=>?_;have I1:Inv X f σ H {s with heap:=h',toks:=s.toks}:=I.turned (λb o a e=>(Y.2 b a).trans e) y A B C D;obtain⟨b,tb,G⟩:=a i q;obtain⟨O,e,c,dd⟩:=id r;exact⟨_,ρ,qx e c dd ρ ⟨.ref b,H,I1,by rw[G];rfl,⟨ρ,b,tb,ρ⟩,r,λb a=>(p b a).1⟩⟩
 done:=by intro X t hw u L i f s σ H E I p st x;subst t hw u J;obtain⟨y,A,S,B,C,D⟩:=p it (by simp);obtain⟨hd,T⟩:=x;obtain⟨g,ok⟩:=I.ak d _ hd;obtain⟨M,N,O,Q,j,F,g3,U,_,_⟩:=tW ok;rw[g] at j;cases j;rw[m] at g3;cases g3;exact Tr (I.ok.hd L) st ⟨o,g,F,m⟩ (by lia) λh' G=>⟨ρ,I.turned (λb o a e=>G b o a e) y A B C D⟩
 self:=λ_ _ _ _ _ st h=>abX st h
def Inv.Ot (I:Inv X f σ H s)(e:H d=al (.dT kvs))(j:s.heap.get? d=al o):Inv X f σ (upd H d<|.aV o<|.dT kvs) s:=by
  have g:∀b u,H b=al u->u≠.dT kvs->b≠d:=by lia
  have un:Un X.fs [] H (upd H d<|.aV o<|.dT kvs) s.heap s.heap :=
    ⟨λb a q _ _ _=>q,λb a q _ _ _=>⟨a.slots,q⟩,λb a q n _=>by rw[ax (λz=>by simp_all)];exact n,λb a q _=>⟨a,q⟩,
     λb xs q=>by rw[ax (g b _ q ⋯)];exact q,λb a u q=>by rw[ax (g b _ q ⋯)];exact q,λb ps q=>⟨#[],by rw[ax (g b _ q ⋯),q];simp⟩⟩
  have st:∀b u,cB X.prog X.w H s.heap b u->cB X.prog X.w (upd H d<|.aV o<|.dT kvs) s.heap b u:=λb u x =>
    x.gp (λc v _ q=>q) (λc q=>by rw[ax (g c _ q ⋯)];exact q) λc xs q=>by rw[ax (g c _ q ⋯)];exact q
  have ak:bZ X.prog X.w (upd H d<|.aV o<|.dT kvs) s.heap:=λb u q=>by
    by_cases i:b=d
    · subst i;rw[aT] at q;obtain rfl:=sO q;exact⟨j,st _ _<|I.ak _ _ e⟩
    rw[ax i] at q;exact st _ _<|I.ak b u q
  exact I.un un ak
def Rc(te:TE):TI:=fun σ H R=>te σ H λv a=>∃d kvs,v=.ref d/\a d=al (.dT kvs)/\∀o bs,nG a kvs bs->R (zk d o kvs bs) (upd a d<|.aV o<|.dT kvs)
def HD (l:PE X e te):PI X k e (Rc te):=by refine λc s σ H R I h=>aD (l c s σ H _ I h) λv a g=>?_;obtain⟨y,H1,i,m,n⟩:=g;obtain⟨d,kvs,rfl,hd,q⟩:=n;subst m;have ok:=i.ak d _ hd;obtain⟨es,ep,o,bs,f,p,g3,g4,r,t⟩:=tW ok;have j:=gg f;have g:=i.Ot hd f;refine LZ ok.2.1 ⟨o,f,p,g3⟩ ⟨a.heap.objs.size,[a.heap.objs.size],_,_,_,ρ,g.kept λb o e=>e7 _ e,Sv ρ (hQ j) g3 t,⟨_,ib _ ρ,ρ,ρ⟩,λb u=>?_,q o bs r⟩;simp[show b=a.heap.objs.size by simpa using u];exact g.mm (fj _)<|g.ak.fresh<|fj _
abbrev gC:=List<|List e6×Dat
noncomputable def fU(a:gC)(k:List e6):Option Dat:=(a.find? λp=>bd<|p.1=k).map (·.2)
def tK(a:gC)(k:List e6)(d:Dat):gC:=if (fU a k).isSome=bi then a.map (λp=>if p.1=k then (p.1,d) else p) else a++[(k,d)]
noncomputable def kT(k:List e6):List Key:=k.map uy
theorem Gx:kT a=kT b ↔ a=b:=by
 delta kT;constructor
 ·intro h;induction a generalizing b with
  | nil=>simp_all
  | cons x a c=>cases b with
   | nil=>contradiction
   | cons y b=>obtain⟨e,f⟩:=List.cons.inj h;rw[Sum.inr.inj e,c f]
 intro h;rw[h]
def wY(k):(kT k).map kV=k.map V.str:=by delta kT;rw[gk];rfl
theorem bR.length:∀{a:gC}{kvs:List (List Key×V)},bR K H a kvs->kvs.length=a.length
 | [],_,h=>by rw[show _=[] from h];rfl
 | (_,_)::_,_,b=>by obtain⟨v,r,e,q,t⟩:=b;simp only[e,gi,gi,bR.length t]
theorem bR.find:∀{c:gC}{kvs:List (List Key×V)}(k:List e6),bR K H c kvs->(∀d,fU c k=al d->∃v,fM kvs (kT k)=al v/\Rep K H d v)/\(fU c k=am->fM kvs (kT k)=am)
 | [],_,k,h=>by rw[show _=[] from h];exact⟨λd z=>by simp[fU] at z,λ_=>rfl⟩
 | (f,d')::c,_,k,j=>by
  obtain⟨v,r,e,q,t⟩:=j;rw[show _=(kT f,v)::r from e];obtain⟨a,b⟩:=bR.find k t;by_cases g:f=k
  ·subst g;have i:fU ((f,d')::c) f=al d':=by simp[fU]
   rw[i,rO ρ];exact⟨λd z=>⟨v,ρ,by obtain rfl:=sO z;exact q⟩,λz=>by contradiction⟩
  have i:fU ((f,d')::c) k=fU c k:=by simp[fU,g]
  rw[i,rV<|λz=>g<|Gx.1 z];exact⟨a,b⟩
theorem bR.has (k:List e6)(h:bR K H c kvs):(fM kvs<|kT k).isSome=(fU c k).isSome:=by
 obtain⟨a,b⟩:=h.find k;cases e:fU c k with
 | none=>rw[b e];rfl
 | some d=>obtain⟨v,f,_⟩:=a d e;rw[f];rfl
theorem bR.jV:∀{a:gC}{kvs:List (List Key×V)}(k:List e6) {d:Dat}{v:V},bR K H a kvs->Rep K H d v->bR K H (a.map λp=>if p.1=k then (p.1,d) else p) (kvs.map λp=>if p.1=kT k then (p.1,v) else p)
 | [],_,k,_,_,h,_=>by simp only[show _=[] from h];exact ρ
 | (b,d')::a,_,k,d,v,g,c=>by
  obtain⟨w,r,e,q,t⟩:=g;rw[show _=(kT b,w)::r from e,iW,iW];by_cases f:b=k
  ·subst f;rw[if_pos ρ,if_pos ρ];exact⟨v,_,ρ,c,bR.jV b t c⟩
  rw[if_neg f,if_neg<|λz=>f<|Gx.1 z];exact⟨w,_,ρ,q,bR.jV k t c⟩
theorem bR.snoc:∀{b:gC}{kvs:List (List Key×V)}(k:List e6) {d:Dat}{v:V},bR K H b kvs->Rep K H d v->bR K H (b++[(k,d)]) (kvs++[(kT k,v)])
 | [],_,k,_,v,h,a=>by rw[show _=[] from h];exact⟨v,[],ρ,a,ρ⟩
 | (_,_)::_,_,k,_,_,c,a=>by obtain⟨w,r,e,q,t⟩:=c;exact⟨w,r++_,by rw[e];rfl,q,bR.snoc k t a⟩
def bR.put{a:gC}{kvs:List (List Key×V)}(k:List e6){d:Dat}{v:V}(h:bR K H a kvs)(b:Rep K H d v):bR K H (tK a k d) (putK kvs (kT k) v):=by
 delta tK putK;rw[vz,h.has k];split
 ·exact h.jV k b
 exact h.snoc k b
theorem E9:∀{a:gC}{kvs:List (List Key×V)},bR K H a kvs->kvs.map (·.1)=a.map λk=>kT k.1
 | [],_,h=>by rw[show _=[] from h];rfl
 | (_,_)::_,_,b=>by obtain⟨v,r,e,q,t⟩:=b;simp only[e,iW,iW,E9 t];rfl
abbrev UF:=DS->Option (List e6×DS)
def nR(X:Cx)(e:hH)(f:UF):Prop:=∃t,PE X e t/\∀(H0:Hp×Hp) (ps:Nat->Option dn) (Z:DS) (σ:St) (H Hi:Hp) (l:List e6) (Z':DS) (Q:VK),f Z=al (l,Z')->SR X.K H0 ps Z σ H Hi ->
 (∀p H' a,SR X.K H0 ps Z' σ H' a->ag Hi a->a p=al (.U<|(kT l).map kV)->Q (.ref p) H')->t σ H Q
def yN(f:AF):UF:=λZ=>(f Z).bind λp=>if p.1.length<=dk then (dH p.1).map λl=>(l,p.2) else am
def xF(f:AF):UF:=λZ=>(f Z).bind λp=>match p.1 with
 | [.L ds]=>(dH ds).map λl=>(l,p.2)
 | _=>am
def Lz {c}(h:DA X a f):nR X (.Tuple a c pos) (yN f):=by
 obtain⟨t,p,q⟩:=h;refine⟨_,xZ p,λH0 ps Z σ H Hi l Z' Q e S k=>?_⟩;obtain⟨ds,Z1,g,e⟩:=oB e;split at e
 ·rename_i i;obtain⟨l',j,e⟩:=oM e;obtain⟨rfl,rfl⟩:=sP e;refine q H0 ps Z σ H Hi ds _ _ g S λvs H1 Hi1 m n b=>⟨by rw[b.length];exact i,λp r=>?_⟩;obtain⟨s,u⟩:=m.laid r;apply k p _ _ s<|n.trans u;rw[aT,lH j b,wY]
 exact nO e
def ON (g:Gl X "tuple")(i:X.mg "tuple"=am)(j:bN X e [])(m:DA X [e] fa):nR X (.Call (.Name "tuple" p) [e] [] pos) (xF fa):=by
 obtain⟨t,n,q⟩:=m;refine⟨_,uT G9 g i (by decide +kernel) n ⋯ ρ j ρ,λH0 ps Z σ H Hi l Z' Q b S k=>?_⟩;obtain⟨ds,Z1,r,b⟩:=oB b;dsimp only at b;split at b
 ·obtain⟨l',s,b⟩:=oM b;obtain⟨rfl,rfl⟩:=sP b;refine q H0 ps Z σ H Hi _ _ _ r S λvs H1 Hi1 c u x=>?_;obtain⟨v,vr,rfl,⟨a,f,rfl,y,rs⟩,z⟩:=x;subst z;refine⟨a,f,ρ,ι ⟨ι<|Rd.mono c.sub y,λp A=>?_⟩⟩;obtain⟨B,C⟩:=c.laid A;apply k p _ _ B<|u.trans C;rw[aT,lH s rs,wY]
 exact nO b
noncomputable def DN:EF:=λZ=>al (.O<|.aN false [],Z)
def qI(i:Nat)(b:UF)(f:DF):SF:=λZ=>(f Z).bind λp=>((p.2[i]?).bind ownOf).bind λ_=>(b p.2).bind λq=>((q.2[i]?).bind ownOf).bind λs=>match s.2 with
 | .aN _ a=>if a.length<dk then al (.next<|q.2.set i<|kindAt s.1<|.aN false<|tK a q.1 p.1) else am
 | _=>am
def MF (i:Nat)(J:X.A.units+1<zR)(L:X.N[i]?=al x)(M:cj X.env.scope x)(h:DD X e f)(O:nR X g r)(hd:bD x:=by decide)(s:cH x:=by decide)(Q:Fs e (al<|.Subscript (.Name x m) g pt) pos.line X.env=pure false:=by rfl):cg X (.Assign [.Subscript (.Name x m) g pt] e pos) (qI i r f):=by
 obtain⟨t,p,q⟩:=h;obtain⟨tk,R,T⟩:=O;refine⟨_,D' J (fh L M hd s) R p Q,λH0 ps Z σ H Hi o D e S k=>?_⟩;obtain⟨d,Z1,U,e⟩:=oB e;obtain⟨b0,c0,V,e⟩:=oB e;obtain⟨n,Z2,W,e⟩:=oB e;obtain⟨io,c,u,e⟩:=oB e;dsimp only at e;split at e
 ·split at e
  ·rename_i Y;obtain rfl:=sO e;refine q H0 ps Z σ H Hi d Z1 _ U S λv H1 B C s1 r1=>?_;obtain⟨a,j,_⟩:=C.at<|kJ V;refine⟨.ref a,j,T H0 ps Z1 σ H1 B _ Z2 _ W C λy H2 E l F r2=>?_⟩;obtain⟨b,G,ob⟩:=l.at<|kJ u;rw[j] at G;cases G;obtain⟨z,kvs,h1,I,h3⟩:=ob;refine⟨a,_,ρ,ml.t h1 (l.sub _ _ r2) (by rw[bR.length I];exact Y),?_⟩;exact k σ _ E (l.write (kJ u) j ⟨ρ,_,aT,bR.put n I<|Rep.mono F r1,h3⟩)<|s1.trans F
  exact nO e
 exact nO e
theorem SR.share(S:SR K H0 ps Z σ H Hi)(e:H b=al (.U vs)):∃f,SR K H0 ps Z σ H f/\ag Hi f/\f b=al (.U vs)/\∀q u,f q=al u->Hi q=al u\/∃vs,u=.U vs:=by
 cases z:Hi b with
 | some u=>have:=S.sub _ _ z;rw[e] at this;obtain rfl:=sO this;exact⟨Hi,S,ag.refl _,z,λ_ _ h=>ι h⟩
 | none =>
  have sm:ag Hi (upd Hi b<|.U vs):=jU z;have ne:∀{q:dn}{c:Dat},cx K H Hi q c->q≠b:=λh y=>by subst y;exact h.nt e
  refine⟨_,⟨EA S.sub e,S.keep,S.dB,λi d h=>?_,λi c h=>?_,λi c h=>?_,S.ne,S.len,λq u h=>?_⟩,sm,aT,λq u h=>?_⟩
  ·obtain⟨v,a,r⟩:=S.D i d h;exact⟨v,a,Rep.mono sm r⟩
  ·obtain⟨q,a,o,j,k⟩:=S.O i c h;exact⟨q,a,o.keeps ρ sm (by rw[ax (ne o)];exact o.some.2),j,k⟩
  ·obtain⟨q,a,o,j⟩:=S.io i c h;exact⟨q,a,o.keeps ρ sm (by rw[ax (ne o)];exact o.some.2),j⟩
  ·by_cases g:q=b
   ·subst g;rw[aT] at h;cases h;exact τ<|τ ⟨vs,ρ⟩
   rw[ax g] at h;exact S.nw q u h
  by_cases g:q=b
  ·subst g;rw[aT] at h;obtain rfl:=sO h;exact τ ⟨vs,ρ⟩
  rw[ax g] at h;exact ι h
theorem SR.DB (k:nG H kvs bs):∀{Hi:Hp},SR K H0 ps Z σ H Hi->∃a,SR K H0 ps Z σ H a/\ag Hi a/\nG a kvs bs/\∀q u,a q=al u->Hi q=al u\/∃vs,u=.U vs:=by
 induction k with
 | nil=>exact λS=>⟨_,S,ag.refl _,.nil,λ_ _ h=>ι h⟩
 | cons h _ c=>intro Hi S;obtain⟨H1,f,g,i,j⟩:=S.share h;obtain⟨l,m,b,n,o⟩:=c f;exact⟨l,m,g.trans b,.cons (b _ _ i) n,λq u e=>(o q u e).elim (j q u) τ⟩
def SR.hold (S:SR K H0 ps Z σ H Hi)(e:Z[i]?=al (.O c))(m:σ[i]?=al (al<|.ref p))(r:Rep K (upd Hi p o) d' (.ref p)):SR K H0 ps (Z.set i<|.D d') σ (upd H p o) (upd Hi p o)/\ag Hi (upd Hi p o):=by
 obtain⟨p',l,B,nl,C⟩:=S.O i _ e;rw[m] at l;cases l;have t:=(cm.1 e).1;have sm:ag Hi (upd Hi p o):=jU B.some.2;have back:∀{j:Nat}{s:Slot},(Z.set i<|.D d')[j]?=al s->(∀d,s≠.D d)->j≠i/\Z[j]?=al s:=λ{j s} h D=>by
  by_cases f:j=i
  ·subst f;rw[ka t] at h;obtain rfl:=sO h;cases D _ ρ
  rw[gD (Ne.symm f)] at h;exact⟨f,h⟩
 refine⟨⟨yh S.sub,λb u E F=>?_,λq x=>?_,λj d h=>?_,λj c h=>?_,λj c h=>?_,λj k c c' q G I=>?_,by rw[nL];exact S.len,λq u eq=>?_⟩,sm⟩
 ·rw[ax (λz=>by simp_all)];exact S.keep b u E F
 ·have y:q≠p:=λz=>nl (z ▸ x);rw[ax y];exact S.dB q x
 ·by_cases f:j=i;simp_all;rw[gD (Ne.symm f)] at h;obtain⟨v,a,b⟩:=S.D j d h;exact⟨v,a,b.mono sm⟩
 ·obtain⟨f,h⟩:=back h (by intro d z;contradiction);obtain⟨q,a,b,n,J⟩:=S.O j c h;have g:q≠p:=λz=>f<|S.ne j i _ _ p (ι h) (ι e) (z ▸ a) m;exact⟨q,a,b.keeps (ax g) sm (by rw[ax g];exact b.some.2),n,J⟩
 ·obtain⟨f,h⟩:=back h (by intro d z;contradiction);obtain⟨q,a,b,n⟩:=S.io j c h;have g:q≠p:=λz=>f<|S.ne j i _ _ p (τ h) (ι e) (z ▸ a) m;exact⟨q,a,b.keeps (ax g) sm (by rw[ax g];exact b.some.2),n⟩
 ·have L:=G.imp (λz=>(back z ⋯).2) λz=>(back z ⋯).2;have M:=I.imp (λz=>(back z (by simp)).2) λz=>(back z (by simp)).2;exact S.ne j k c c' q L M
 by_cases A:q=p
 ·subst A;exact τ<|ι C
 rw[ax A] at eq;exact S.nw q u eq
def SR.held (S:SR K H0 ps Z σ H Hi)(m:cx K H Hi p c)(nl:¬gx ps p)(n:H0.1 p=am)(nd:∀(i:Nat) (c':Dat),(Z[i]?=al (.O c')\/Z[i]?=al (.io c'))->σ[i]?≠al (al<|.ref p)):SR K H0 ps Z σ (upd H p o) (upd Hi p o)/\ag Hi (upd Hi p o):=by
 have sm:ag Hi (upd Hi p o):=jU m.some.2;refine⟨⟨yh S.sub,λb u r s=>?_,λq g=>?_,λj d h=>?_,λj c h=>?_,λj c h=>?_,S.ne,S.len,λq u eq=>?_⟩,sm⟩
 ·rw[ax (λz=>by simp_all)];exact S.keep b u r s
 ·have k:q≠p:=λz=>nl (z ▸ g);rw[ax k];exact S.dB q g
 ·obtain⟨v,a,b⟩:=S.D j d h;exact⟨v,a,b.mono sm⟩
 ·obtain⟨q,a,b,f,t⟩:=S.O j c h;have e:q≠p:=λz=>nd j c (ι h) (z ▸ a);exact⟨q,a,b.keeps (ax e) sm (by rw[ax e];exact b.some.2),f,t⟩
 ·obtain⟨q,a,b,f⟩:=S.io j c h;have e:q≠p:=λz=>nd j c (τ h) (z ▸ a);exact⟨q,a,b.keeps (ax e) sm (by rw[ax e];exact b.some.2),f⟩
 by_cases l:q=p
 ·subst l;exact τ<|ι n
 rw[ax l] at eq;exact S.nw q u eq
noncomputable def jX(a:gC):List Dat:=a.map λk=>.U<|k.1.map .str
theorem EB:∀l:List e6,aw K H (l.map .str) (l.map V.str)
 | []=>rfl
 | x::l=>⟨_,_,ρ,ρ,EB l⟩
def ED (f:Hi p=al (.aV o<|.dT kvs))(g:bR K Hi a kvs)(kb:nG Hi kvs bs):JW K (zk p o kvs bs) (jX a) Hi:=by
 intro j H2 i;have hl:=bR.length g;have lk:(jX a).length=a.length:=by unfold jX;rw[bt]
 refine⟨λd c=>⟨⟨i _ _ f,?_⟩,λv H3 n=>ι ?_⟩,λh=>⟨i _ _ f,?_⟩⟩
 ·have:=(cm.1 c).1;omega
 ·obtain⟨rfl,b,q,rfl⟩:=n;refine⟨ρ,?_⟩;have k:j<a.length:=by have:=(cm.1 c).1;omega
  have l:kvs[j]?=al kvs[j]:=cn (by omega);have m:=D2 kb j _ _ l q;have e:(kvs.map (·.1))[j]?=al kvs[j].1:=by rw[c6,l];rfl
  simp only[E9 g,c6,cn k] at e;have e:=Option.some.inj e;unfold jX at c;simp only[c6,cn k] at c;obtain rfl:=sO c;rw[<-e,wY] at m;exact⟨b,_,ρ,aS.of m,EB _⟩
 omega
def yR(i:Nat):IF:=λZ=>match Z[i]? with
 | some (.O<|.aN _ a)=>al (jX a,Z.set i<|.D<|.aN true a)
 | _=>am
def vo(f:EF):IF:=λZ=>(f Z).bind λp=>match p.1 with
 | .O (.aN _ a)=>al (jX a,p.2)
 | _=>am
def mW(neg:Bool)(i:Nat)(b:UF):EF:=λZ=>(b Z).bind λq=>((q.2[i]?).bind j8).bind λc=>match c with
 | .aN _ a=>al (.D<|.bl (if neg then !(fU a q.1).isSome else (fU a q.1).isSome),q.2)
 | _=>am
theorem FZ (t:Top K H Hi v (.aN a b)):∃p kvs,v=.ref p/\Rd H p (.dT kvs)/\bR K Hi b kvs:=by
 obtain⟨p,o,kvs,e,c,f⟩:=t;refine⟨p,kvs,e,?_,f⟩;cases a with
 | false=>exact ι c
 | true=>exact τ ⟨o,c⟩
def yH (m:∀(H0:Hp×Hp) (ps:Nat->Option dn) (Z:DS) (σ:St) (H Hi:Hp) (l:List e6) (Z':DS) (Q:VK),g Z=al (l,Z')->SR X.K H0 ps Z σ H Hi->(∀p H' a,SR X.K H0 ps Z' σ H' a->ag Hi a->a p=al (.U<|(kT l).map kV)->Q (.ref p) H')->tk σ H Q)(H0)(ps)(Z)(σ)(H Hi)(o)(Z')(Q)(e:mW neg i g Z=al (o,Z'))(S:SR X.K H0 ps Z σ H Hi)(k:∀v H' a,SR X.K H0 ps Z' σ H' a->ag Hi a->RR X.K H0 ps Z' σ H' a v o->Q v H'):ow (p9 neg) tk (ff i) σ H Q:=by
 obtain⟨l,Z1,n,e⟩:=oB e;dsimp only at e;obtain⟨c,q,e⟩:=oA e;split at e
 ·obtain⟨rfl,rfl⟩:=sP e;refine m H0 ps Z σ H Hi _ _ _ n S λb r j f s u=>?_;obtain⟨v,x,t⟩:=f.peek q;obtain⟨p,kvs,rfl,y,z⟩:=FZ t;refine⟨_,x,p,_,ρ,τ ⟨kvs,kT l,b,y,ρ,f.sub _ _ u,ρ⟩,?_⟩;rw[z.has l];exact k _ r j f s ρ
 exact nO e
def LJ (f:X.A.units+1<zR)(g:X.N.findIdx? (·==x)=al i)(j:cj X.env.scope x)(hd:bD x)(e:cH x)(k:za .In (.Name x b)=bn)(l:nR X a c):DE X (.Compare a [.In] [.Name x b] pos) (mW false i c):=by obtain⟨t,p,q⟩:=l;exact⟨_,CO (xp f) p (fh (dZ g) j hd e) k,yH q⟩
def Fv (q:∀(H0:Hp×Hp) (ps:Nat->Option dn) (Z:DS) (σ:St) (H Hi:Hp) (o:Res) (Z':DS) (Q:VK),f Z=al (o,Z')->SR X.K H0 ps Z σ H Hi->(∀v H' a,SR X.K H0 ps Z' σ H' a->ag Hi a->RR X.K H0 ps Z' σ H' a v o->Q v H')->t σ H Q)(H0)(ps)(Z)(σ)(H Hi)(c)(Z')(Q)(b:dP f Z=al (c,Z'))(S:SR X.K H0 ps Z σ H Hi)(k:∀H' a,SR X.K H0 ps Z' σ H' a->ag Hi a->Q c H'):yY t σ H Q:=by
 obtain⟨r,Z1,g,b⟩:=oB b;dsimp only at b;split at b
 ·obtain⟨rfl,rfl⟩:=sP b;refine q H0 ps Z σ H Hi _ _ _ g S λv i e j l m=>?_;exact⟨_,m,k i e j l⟩
 exact nO b
def OD (f:X.A.units+1<zR)(g:X.N.findIdx? (·==x)=al i)(j:cj X.env.scope x)(hd:bD x)(e:cH x)(k:za .In (.Name x b)=bn)(l:nR X a c):DT X (.Compare a [.In] [.Name x b] pos) (dP<|mW false i c):=by obtain⟨t,p,q⟩:=l;exact⟨_,AK (xp f) p (fh (dZ g) j hd e) k,Fv<|yH q⟩
def SE (f:X.A.units+1<zR)(g:X.N.findIdx? (·==x)=al i)(j:cj X.env.scope x)(hd:bD x)(e:cH x)(k:za .NotIn (.Name x b)=bn)(l:nR X a c):DT X (.Compare a [.NotIn] [.Name x b] pos) (dP<|mW true i c):=by obtain⟨t,p,q⟩:=l;exact⟨_,AK (E8 f) p (fh (dZ g) j hd e) k,Fv<|yH q⟩
def vI:List Dat->Option Res
 | [.aN _ a]=>al (.D<|.int (a.length:Int))
 | ds=>yF ds
def NH:CD X (λxs H Q=>Am X.K xs H Q\/(λxs H Q=>∃a kvs,xs=[V.ref a]/\Rd H a (.dT kvs)/\Q (.int kvs.length) H) xs H Q) vI:=by
 intro H0 ps Z σ H Hi vs ds o Q e S r k;delta vI at e;split at e
 ·obtain rfl:=sO e;obtain⟨v,vr,rfl,b,c⟩:=r;subst c;obtain⟨p,kvs,rfl,f,g⟩:=FZ<|b.top S.sub;refine τ ⟨p,kvs,ρ,f,?_⟩;apply k _ H Hi S<|ag.refl _;show V.int _=V.int _;rw[bR.length g]
 exact ι<|LO H0 ps Z σ H Hi vs ds o Q e S r k
def Kd (a:Gl X "len")(b:X.mg "len"=am)(c:bN X e [])(f:DA X [e] fa):DE X (.Call (.Name "len" p) [e] [] pos) (cb vI fa):=jT (bP.or Fp (by
  intro pins s σ H xs us Q I r h;obtain⟨a,kvs,rfl,c,q⟩:=h;obtain⟨u,rfl,e⟩:=vals1 r;subst e;have ok:=zB I.ak c;have z:=ok.1;obtain⟨es,ep,o,bs,f,g,g3,b,g5,g6⟩:=tW ok;refine J' ok.2.1 ⟨o,f,g,g3⟩ (by rw[b];simp only[zd] at z;lia) λt t'=>?_
  rw[b];exact⟨.int kvs.length,H,I.tok _,⟨t,ρ⟩,q⟩)) NH a b aaq f ⋯ ρ c ρ
def Ir (j:X.N.findIdx? (·==x)=al i)(k:cj X.env.scope x)(l:X.A.units+1<zR)(hd:bD x)(g:cH x)(m:Fs e (al<|.Subscript (.Name x b) a pt) pos.line X.env=pure false)(h:DD X e f)(n:nR X a c):cg X (.Assign [.Subscript (.Name x b) a pt] e pos) (qI i c f):=MF i l (dZ j) k h n hd g m
structure nX (x:e6):Prop where
 ok:True
def NF (ht:nX x)(b:X.N.Nodup)(c:X.N.findIdx? (·==x)=al i)(hx:Loc X.env.scope x)(e:X.fn x=bi\/X.env.scope.names.lookup x=some .local)(f:Fs (.Dict [] [] p) (al<|.Name x a) pos.line X.env=pure false):cg X (.Assign [.Name x a] (.Dict [] [] p) pos) (gQ i DN):=xM b c hx e f (by
  refine⟨_,QY,λH0 ps Z σ H Hi r Z' Q a S k=>?_⟩
  obtain⟨rfl,rfl⟩:=sP a;exact λl hl=>k (.ref l) _ Hi (S.made hl) (ag.refl _) ⟨l,ρ,⟨ρ,_,aT,ρ,S.cX hl⟩,(S.bB hl).2,(S.bB hl).1,S.dO hl⟩)
end
def BL(a b:dn):It:=⟨λi H=>∃xs ys x y,Rd H a (.L xs)/\Rd H b (.L ys)/\xs[i]?=al x/\ys[i]?=al y,λi H v H'=>∃p x y,H p=am/\v=.ref p/\H'=upd H p (.U [x,y])/\(∀xs,Rd H a (.L xs)->xs[i]?=al x)/\∀ys,Rd H b (.L ys)->ys[i]?=al y,λi H=>∃xs ys,Rd H a (.L xs)/\Rd H b (.L ys)/\(xs.length<=i\/ys.length<=i)⟩
def JB{P:kH}{w:pe}{K:ft}{elts:List hH}{x1:Nat}{Z:H9}{a b z TI TO g j:dn}(D:ZipApart z TI TO g j a b) :
  Turn P w K (.Tuple elts x1 Z) (BL a b) [z,TI,TO,g,j] z (λi h=>IsZip h z TI TO .none/\IsPair h TI (.ref g) (.ref j)/\(∃u v,IsPair h TO u v)/\h.IsListIter g a i/\h.IsListIter j b i) where
 mem:=by simp
 obj:=λi h st c l=>by
  obtain⟨C,F,⟨u,v,J⟩,⟨o1,e1,c1,d1⟩,⟨o2,e2,c2,d2⟩⟩:=st;simp at l;rcases l with rfl|rfl|rfl|rfl|rfl
  ·exact⟨_,C,λv z=>by contradiction⟩
  ·exact⟨_,F,λv z=>by contradiction⟩
  ·exact⟨_,J,λv z=>by contradiction⟩
  ·exact⟨o1,e1,λv z=>by rw[d1] at z;contradiction⟩
  exact⟨o2,e2,λv z=>by rw[d2] at z;contradiction⟩
 keep:=λi h h' st k=>⟨k z (by simp) _ st.1,k TI (by simp) _ st.2.1,st.2.2.1.imp λu e=>e.imp λv q=>k TO (by simp) _ q,st.2.2.2.1.at λo q=>k g (by simp) o q,st.2.2.2.2.at λo q=>k j (by simp) o q⟩
 item:=by
  intro X hP hw hK d i L s σ H E I G st hg;obtain⟨C,F,⟨u0,v0,J⟩,T,U⟩:=st;obtain⟨xs,ys,x,y,V,N,hx,hy⟩:=hg;obtain⟨_,its,n,rv,ea⟩:=V.ok I.ak;obtain⟨_,its',n',O,Q⟩:=N.ok I.ak;obtain⟨u,hu,ru⟩:=rv.get hx;obtain⟨Y,UN,UO⟩:=O.get hy;have p:=G z (by simp);have t:=G TO (by simp);have A:=G g (by simp);have B:=G j (by simp);have lt:∀{c:dn}{o:Th},s.heap.get? c=al o->c≠s.heap.objs.size:=λe=>hQ<|gg e;refine wpAny_pyNext_zip_item D C F J T U ⟨_,ea,ρ,n,ρ⟩ ⟨_,Q,ρ,n',ρ⟩ (by simpa using hu) (by simpa using UN) λh3 g1 g2 g3 g4 g5 g6 g7=>?_;refine⟨_,ρ,wpAny_letOwnedTupleGo_zip g1 λR f1 M=>?_⟩;have M:Y3 z h3 R:=M;have fr:=I.ak.fresh<|fj _;have cR:∀c o,c≠z->c≠TO->c≠g->c≠j->s.heap.get? c=al o->R.get? c=al o:=λc o k1 k2 k3 k4 q=>(M.2 c k1).trans (g7 c o k1 k2 k3 k4 q);have ht:=(M.2 _<|Ne.symm<|lt C).trans g5;have f:∀{c:dn},c∉[z,TO,g,j]->c≠z/\c≠TO/\c≠g/\c≠j:=λ{c} h=>⟨λe=>h (by simp[e]),λe=>h (by simp[e]),λe=>h (by simp[e]),λe=>h (by simp[e])⟩;have gr:∀c w,H c=al w->c≠z/\c≠TO/\c≠g/\c≠j:=λc w q=>⟨dq q p.1,dq q t.1,dq q A.1,dq q B.1⟩;have S:∀c w,H c=al w->c≠s.heap.objs.size:=λc w q=>dq q fr;refine⟨.ref s.heap.objs.size,upd H s.heap.objs.size<|.U [x,y],?_,ρ,⟨_,x,y,fr,ρ,ρ,λzs C=>by rw[C.GO V];exact hx,λzs C=>by rw[C.GO N];exact hy⟩,⟨f1,?_,⟨u,Y,(M.2 _ D.TOz).trans g2⟩,?_,?_⟩,λc l=>?_⟩
  ·show Inv X L σ (upd H s.heap.objs.size<|.U [x,y]) {s with heap:=R,gens:=s.gens,drawn:=s.drawn,toks:=s.toks};refine Inv.step I (λb l=>?_) (λb o _ _ d q _=>cR b o (f d).1 (f d).2.1 (f d).2.2.1 (f d).2.2.2 q) (λb o _ _ d q _=>⟨o.slots,cR b o (f d).1 (f d).2.1 (f d).2.2.1 (f d).2.2.2 q⟩)
    (λb o d q n=>by rw[ax (hQ<|gg q)];exact n) (λb o d q=>⟨o,cR b o (f d).1 (f d).2.1 (f d).2.2.1 (f d).2.2.2 q⟩) (λb ys q=>by rw[ax (S b _ q)];exact q) (λb ob w q=>by rw[ax (S b _ q)];exact q)
    (λb ps q=>⟨#[],by rw[ax (S b _ q),q];simp⟩) (λm hm=>?_) (λb w q=>?_) I.bare
   ·simp at l;rcases l with rfl|rfl|rfl|rfl
    ·exact⟨p.2.2.2.1,p.2.1,p.2.2.2.2.1,p.2.2.2.2.2⟩
    ·exact⟨t.2.2.2.1,t.2.1,t.2.2.2.2.1,t.2.2.2.2.2⟩
    ·exact⟨A.2.2.2.1,A.2.1,A.2.2.2.2.1,A.2.2.2.2.2⟩
    exact⟨B.2.2.2.1,B.2.1,B.2.2.2.2.1,B.2.2.2.2.2⟩
   ·obtain⟨o,es,ep,ho,r⟩:=hm;exact⟨o,es,ep,cR _ o (Ne.symm p.2.1) (Ne.symm t.2.1) (Ne.symm A.2.1) (Ne.symm B.2.1) ho,r⟩
   by_cases l:b=s.heap.objs.size
   ·subst l;rw[aT] at q;obtain rfl:=sO q;exact⟨by show 2<=dk;unfold dk;decide,[u,Y],.cons ru<|.cons UO .nil,_,ht,rfl,_,rfl⟩
   rw[ax l] at q;refine (I.ak b w q).gp (λc v d r=>?_) (λc r=>by rw[ax (S c _ r)];exact r) λc ys r=>by rw[ax (S c _ r)];exact r
   rcases d with rfl|d
   ·exact cR c v (gr _ _ q).1 (gr _ _ q).2.1 (gr _ _ q).2.2.1 (gr _ _ q).2.2.2 r
   exact cR c v (gr _ _ d).1 (gr _ _ d).2.1 (gr _ _ d).2.2.1 (gr _ _ d).2.2.2 r
  ·exact cR TI _ D.TIz D.TITO D.TIi1 D.TIi2 F
  ·exact g3.at λo q=>(M.2 _ D.i1z).trans q
  ·exact g4.at λo q=>(M.2 _ D.i2z).trans q
  have UR:c≠s.heap.objs.size:=by
   obtain⟨o1,e1,_⟩:=T;obtain⟨o2,e2,_⟩:=U;simp at l;rcases l with rfl|rfl|rfl|rfl|rfl
   ·exact lt C
   ·exact lt F
   ·exact lt J
   ·exact lt e1
   exact lt e2
  rw[ax UR];exact (G c l).1
 done:=by
  intro X hP hw hK d i L s σ H E I G st hg;obtain⟨C,F,⟨u0,v0,J⟩,T,U⟩:=st;obtain⟨xs,ys,V,N,hl⟩:=hg;obtain⟨_,its,n,rv,ea⟩:=V.ok I.ak;obtain⟨_,its',n',O,Q⟩:=N.ok I.ak;have l1:=rv.length;have l2:=O.length;refine wpAny_pyNext_zip_end (I.ok.hd d) D C F J T U ⟨_,ea,ρ,n,ρ⟩ ⟨_,Q,ρ,n',ρ⟩ (hl.imp (λz=>by simp;lia) λz=>by simp;lia) λh' k=>?_;have p:=G z (by simp);have t:=G TO (by simp);have A:=G g (by simp);have B:=G j (by simp);have cR:∀c o,c≠z/\c≠TO/\c≠g/\c≠j->s.heap.get? c=al o->h'.get? c=al o:=λc o q e=>k c o q.1 q.2.1 q.2.2.1 q.2.2.2 e;have f:∀{c:dn},c∉[z,TO,g,j]->c≠z/\c≠TO/\c≠g/\c≠j:=λ{c} h=>⟨λe=>h (by simp[e]),λe=>h (by simp[e]),λe=>h (by simp[e]),λe=>h (by simp[e])⟩;have gr:∀c w,H c=al w->c≠z/\c≠TO/\c≠g/\c≠j:=λc w q=>⟨dq q p.1,dq q t.1,dq q A.1,dq q B.1⟩;refine⟨ρ,?_⟩;show Inv X L σ H {s with heap:=h',gens:=s.gens,drawn:=s.drawn,toks:=s.toks};refine Inv.step I (λb l=>?_) (λb o _ _ d q _=>cR b o (f d) q) (λb o _ _ d q _=>⟨o.slots,cR b o (f d) q⟩)
   (λ_ _ _ _ n=>n) (λb o d q=>⟨o,cR b o (f d) q⟩) (λ_ _ q=>q) (λ_ _ _ q=>q) (λb ps q=>⟨#[],by rw[q];simp⟩) (λm hm=>?_) (λb w q=>?_) I.bare
  ·simp at l;rcases l with rfl|rfl|rfl|rfl
   ·exact⟨p.2.2.2.1,p.2.1,p.2.2.2.2.1,p.2.2.2.2.2⟩
   ·exact⟨t.2.2.2.1,t.2.1,t.2.2.2.2.1,t.2.2.2.2.2⟩
   ·exact⟨A.2.2.2.1,A.2.1,A.2.2.2.2.1,A.2.2.2.2.2⟩
   exact⟨B.2.2.2.1,B.2.1,B.2.2.2.2.1,B.2.2.2.2.2⟩
  ·obtain⟨o,es,ep,ho,r⟩:=hm;exact⟨o,es,ep,cR _ o ⟨Ne.symm p.2.1,Ne.symm t.2.1,Ne.symm A.2.1,Ne.symm B.2.1⟩ ho,r⟩
  refine (I.ak b w q).gp (λc v d r=>?_) (λc r=>r) λc ys r=>r;rcases d with rfl|d
  ·exact cR c v (gr _ _ q) r
  exact cR c v (gr _ _ d) r
 self:=λ_ _ _ _ _ st h=>acD st.1 h
section
variable{X:Cx}
def Rw:Xf "zip"=al (.type "zip"):=by decide +kernel
def Kz(d:TA):TI:=fun σ H R=>d σ H λvs c=>∃a b xs ys,vs=[.ref a,.ref b]/\Rd c a (.L xs)/\Rd c b (.L ys)/\R (BL a b) c
def LV (x:Gl X "zip")(y:X.mg "zip"=am)(z:PA X [a,b] k)(A:bN X a [b])(l:(XG pos<|nk [b] X.env).any (·.1)=bn):PI X (.Tuple elts w i) (.Call (.Name "zip" p) [a,b] [] pos) (Kz k):=by
 refine λj s σ H R I h=>Call_<|pz I x y Rw<|Xn (aD (z pos j s σ H _ I h) λus d g=>?_) A l;obtain⟨vs,B,f,C,D⟩:=g;obtain⟨a,b,xs,ys,rfl,E,m,q⟩:=D;obtain⟨u,u',rfl,F,o⟩:=C.two;subst F;subst o;obtain⟨_,its,n,rv,e⟩:=E.ok f.ak;obtain⟨_,its',G,rv',r⟩:=m.ok f.ak;refine call_zip_2 ⟨_,e,ρ,n,ρ⟩ ⟨_,r,ρ,G,ρ⟩ λh' t J K L M k6 N=>acD t ?_;refine⟨_,[d.heap.objs.size+4,d.heap.objs.size+2,d.heap.objs.size+3,d.heap.objs.size,d.heap.objs.size+1],_,_,B,ρ,f.kept N,JB<|zipApart_new (gg e)<|gg r,⟨t,J,⟨_,_,K⟩,L,M⟩,λc v=>?_,q⟩;have g:d.heap.objs.size<=c:=by
  simp at v;rcases v with rfl|rfl|rfl|rfl|rfl
  ·exact Y1 _ _
  ·exact Y1 _ _
  ·exact Y1 _ _
  ·exact fj _
  exact Y1 _ _
 exact f.mm g<|f.ak.fresh g
end
noncomputable def pF(as bs:List Dat):List Dat:=(as.zip bs).map λp=>.U [p.1,p.2]
def tX(fa:AF):IF:=λZ=>(fa Z).bind λp=>match p.1 with
 | [.L as,.L bs]=>al (pF as bs,p.2)
 | _=>am
section
variable{X:Cx}{pos:H9}{prog:kH}{w:pe}{A:qp}{E:cA->ey->Prop}{s:ey}
def Qg (M:Gl X "zip")(N:X.mg "zip"=am)(O:bN X a [b])(C:(XG pos<|nk [b] X.env).any (·.1)=bn)(P:DA X [a,b] fa):cO X (.Tuple elts L u) (.Call (.Name "zip" p) [a,b] [] pos) (tX fa):=by
 obtain⟨t,Q,q⟩:=P;refine⟨_,LV M N Q O C,λT U Z σ H Hi items Z' R c S k=>?_⟩;unfold tX at c;obtain⟨as,Z1,V,c⟩:=oB c;dsimp only at c;split at c
 ·rename_i as bs;obtain⟨rfl,rfl⟩:=sP c;refine q T U Z σ H Hi _ _ _ V S λvs W D B Y r1=>?_;obtain⟨v,vr,rfl,⟨a',h,rfl,j,rs⟩,v',vr',rfl,⟨b',e,rfl,f,r⟩,rn⟩:=r1;subst rn;have hl:=rs.length;have hl':=r.length;have lz:(pF as bs).length=min as.length bs.length:=by simp[pF]
  refine⟨a',b',h,e,ρ,Rd.mono B.sub j,Rd.mono B.sub f,k _ W D B Y λi H2 g=>⟨λd l=>?_,λhle=>⟨h,e,Rd.mono g j,Rd.mono g f,?_⟩⟩⟩
  ·have hi:i<min as.length bs.length:=by rw[<-lz];exact (cm.1 l).1
   have F:i<as.length:=by omega
   have G:i<bs.length:=by omega
   have I:d=.U [as[i],bs[i]]:=by unfold pF at l;rw[c6,(W6 (z:=(as[i],bs[i]))).2 ⟨cn F,cn G⟩] at l;exact (Option.some.inj l).symm
   subst I;obtain⟨x,ex,rx⟩:=rs.get<|cn F;obtain⟨y,J,ry⟩:=r.get<|cn G;refine⟨⟨h,e,x,y,Rd.mono g j,Rd.mono g f,ex,J⟩,λv H3 yl=>τ ?_⟩;obtain⟨p,x',y',hp,rfl,rfl,m,o⟩:=yl;have m:=m h<|Rd.mono g j;have o:=o e<|Rd.mono g f;rw[ex] at m;rw[J] at o;obtain rfl:=sO m;obtain rfl:=sO o;exact⟨p,_,hp,ρ,λHi' K n=>⟨p,_,ρ,aS.of aT,_,_,ρ,(rx.mono K).mono (jU n),_,_,ρ,(ry.mono K).mono (jU n),ρ⟩⟩
  lia
 exact nO c
theorem vd:∀{a:List e6}{us:List cA},aC (a.map V.str) us->YM us a
 | [],_,h=>by cases h;exact .nil
 | x::a,_,h=>by
  cases h with
  | cons r t=>obtain⟨k,e⟩:=(r);subst e;exact .cons x k<|vd t
def yn:List V->Hp->VK->Prop:=λxs H Q=>∃p a,xs=[.ref p]/\Rd H p (.L<|a.map V.str)/\a.length<64/\∀l,H l=am->Q (.ref l) (upd H l<|.L<|(bp a).map V.str)
def MV:bP X (.builtin "sorted") yn:=by
 intro pins s σ H xs us Q I r h;obtain⟨p,d,rfl,j,h64,q⟩:=h;obtain⟨u,rfl,k⟩:=r.one;subst k;obtain⟨z,its,n,f,e⟩:=j.ok I.ak;have b:=vd f;have hl:its.length<64:=by have:=f.length;simp_all
 refine sortedK abi ⟨_,e,ρ,n,ρ⟩ b.keysOf (λv₁ v₂ rest e=>abL (by rw[<-e];exact b)) hl λg m t=>?_;obtain⟨ss',i,v,x⟩:=AZ b m t;obtain⟨c,hD⟩:=sortedAll_at s.heap its ((ab6 g).map (·.2));rw[rN v x] at i;have y:((bp d).map V.str).length<=sizeLine:=by simp_all [bp]
 exact⟨.ref<|s.heap.objs.size+1,_,I.laid (o:=.L<|(bp d).map V.str) (λ_ _=>sortedAll_old) (Zq _) ⟨y,_,c,uZ i,by omega⟩,ρ,q _<|I.ak.fresh<|Zq _⟩
def Ae:List Dat->Option Res
 | [.L ds]=>match dH ds with
  | some a=>if a.length<64 then al (.O<|.L<|(bp a).map .str) else am
  | none=>oX [.L ds]
 | ds=>oX ds
def Mk:CD X (λxs H Q=>(λxs H Q=>uY X.K xs H Q\/vc xs H Q) xs H Q\/yn xs H Q) Ae:=by
 intro b c Z σ H Hi vs ds o Q a S r k;delta Ae at a;split at a
 ·split at a
  ·rename_i d e;split at a
   ·rename_i f;obtain rfl:=sO a;obtain⟨v,vr,rfl,⟨p,ws,rfl,g,rs⟩,h⟩:=r;subst h;have i:=lH e rs;subst i;refine τ ⟨p,d,ρ,Rd.mono S.sub g,f,λl hl=>?_⟩;exact k (.ref l) _ Hi (S.made hl) (ag.refl _) ⟨l,ρ,⟨_,aT,gE _,S.cX hl⟩,(S.bB hl).2,(S.bB hl).1,S.dO hl⟩
   exact nO a
  exact ι<|BJ b c Z σ H Hi vs _ o Q a S r k
 exact ι<|BJ b c Z σ H Hi vs _ o Q a S r k
noncomputable def xb:List Dat->Option Res
 | [.L ds]=>al (.O<|.L ds)
 | [.U ds]=>al (.O<|.L ds)
 | _=>am
def Pc (a:Gl X "list")(b:X.mg "list"=am)(c:bN X e [])(d:DA X [e] fa):DE X (.Call (.Name "list" p) [e] [] pos) (cb xb fa):=tz BK (by
  intro H0 ps Z σ H Hi vs ds o Q e S r k;delta xb at e;split at e
  ·cases e;obtain⟨v,f,rfl,⟨a,b,rfl,c,rs⟩,d⟩:=r;cases d;refine⟨a,b,ρ,ι<|ι<|Rd.mono S.sub c,λl hl=>?_⟩;exact k (.ref l) _ Hi (S.made hl) (ag.refl _) ⟨l,ρ,⟨_,aT,rs,S.cX hl⟩,(S.bB hl).2,(S.bB hl).1,S.dO hl⟩
  ·cases e;obtain⟨v,f,rfl,⟨a,b,rfl,c,rs⟩,d⟩:=r;cases d;refine⟨a,b,ρ,τ<|aS.mono S.sub c,λl hl=>?_⟩;exact k (.ref l) _ Hi (S.made hl) (ag.refl _) ⟨l,ρ,⟨_,aT,rs,S.cX hl⟩,(S.bB hl).2,(S.bB hl).1,S.dO hl⟩
  exact nO e) a b (by decide +kernel) d ⋯ ρ c ρ
def KW (u:s.heap.get? a=al o)(v:o.cls=.type "tuple")(x:o.data=.seq vs.toArray n)(h:YM vs k)(l:vs.length<64)(q:∀(d i:ph) (c:Nat) (g:List cA),(∀b f,s.heap.get? b=al f->d.get? b=al f)->(∀b f,d.get? b=al f->i.get? b=al f)->i.get? d.objs.size=al (Yb "list" g.toArray c)->YM g (bp k)->Q (.ref d.objs.size) {s with heap:=i}):hX (k5 prog w) A (call (.builtin "sorted") [.ref a]) Q E s:=by refine YH kind_sorted plain_sorted entry_sorted (args_sorted1 _) ?z;delta Yy.«sorted»;refine cW<|fm<|cW<|wpAny_collect_seq a (τ ρ) u v x (λd y=>?H) (by simp;rw[zd];omega);refine cW<|abb ?I;have j:(d.push<|Yb "list" vs.toArray 0).get? d.objs.size=al (Yb "list" vs.toArray 0):=ib _ ρ;refine cW<|u5<|P' aa3 ⟨_,j,ρ⟩ aaO (ac2 abi j h.keysOf (λv₁ v₂ rest e=>abL (by rw[<-e];exact h)) l λp B C=>⟨_,ρ,?J⟩)<|aa4 _;obtain⟨ss',r,D,F⟩:=AZ h B C;obtain⟨c,hD⟩:=adu j;rw[rN D F] at r;refine fm ⟨_,ρ,q d _ c _ y (λb f e=>?K) (by omega) r⟩;have G:=hQ<|gg e;have t:(d.push<|Yb "list" vs.toArray 0).get? b=al f:=e7 _ e;exact (adj G<|gg t).trans t
def AX(K:ft):List V->Hp->VK->Prop:=λxs H Q=>∃p a,xs=[.ref p]/\aS K H p (a.map V.str)/\a.length<64/\∀l,H l=am->Q (.ref l) (upd H l<|.L<|(bp a).map V.str)
theorem EH:bP X (.builtin "sorted") (AX X.K):=by
 intro pins s σ H xs us Q I r h;obtain⟨p,b,rfl,g,h64,q⟩:=h;obtain⟨u,rfl,i⟩:=r.one;subst i;obtain⟨its,d,⟨o,j,k,n,l⟩,_⟩:=I.tuple g;have m:=vd d;have hl:its.length<64:=by have:=d.length;simp_all
 refine KW j k l m hl fun e g2 c vs' t v x y=>?_;have f:=I.kept (t':=s.toks) t;have z:((bp b).map V.str).length<=sizeLine:=by simp_all [bp]
 exact⟨.ref e.objs.size,_,f.laid (o:=.L<|(bp b).map V.str) v (fj _) ⟨z,_,c,uZ y,x⟩,ρ,q _<|f.ak.fresh<|fj _⟩
def kN:List Dat->Option Res
 | [.U ds]=>(dH ds).bind λa=>if a.length<64 then al (.O<|.L<|(bp a).map .str) else am
 | ds=>Ae ds
def TN:CD X (λxs H Q=>((λxs H Q=>uY X.K xs H Q\/vc xs H Q) xs H Q\/yn xs H Q)\/AX X.K xs H Q) kN:=by
 intro b c Z σ H Hi vs ds o Q a S r k;delta kN at a;split at a
 ·obtain⟨d,e,a⟩:=oA a;split at a
  ·rename_i f;obtain rfl:=sO a;obtain⟨v,vr,rfl,⟨p,ws,rfl,g,rs⟩,h⟩:=r;subst h;have i:=lH e rs;subst i;refine τ ⟨p,d,ρ,aS.mono S.sub g,f,λl hl=>?_⟩;exact k (.ref l) _ Hi (S.made hl) (ag.refl _) ⟨l,ρ,⟨_,aT,gE _,S.cX hl⟩,(S.bB hl).2,(S.bB hl).1,S.dO hl⟩
  exact nO a
 exact ι<|Mk b c Z σ H Hi vs _ o Q a S r k
theorem zu{e:hH}{fa:AF}{p:H9}(a:X.ex=[])(b:X.calm=bi)(c:Gl X "sorted")(d:X.mg "sorted"=am)(f:bN X e [])(g:DA X [e] fa):DE X (.Call (.Name "sorted" p) [e] [] pos) (cb kN fa) :=
 jT (bP.or (bP.or (bP.or (Tj a)<|RI a b) MV) EH) TN c d (by decide +kernel) g ⋯ rfl f rfl
def RQ(te:TE):TE:=fun σ H Q=>te σ H λv a=>∃d kvs,v=.ref d/\a d=al (.dK kvs)/\∀o,Q v<|upd a d<|.aV o<|.dK kvs
def LG (c:PE X e te):PE X e (RQ te):=by refine λa s σ H Q I h=>aD (c a s σ H _ I h) λv s1 e=>?_;obtain⟨y,H1,b,f,g⟩:=e;obtain⟨d,kvs,rfl,hd,q⟩:=g;obtain⟨z,lo,vs,kv,o,es,ep,i,rest⟩:=b.ak d _ hd;exact⟨.ref d,_,b.aV hd i,f,q o⟩
structure uo (x:e6):Prop where
 ok:True
noncomputable def oV(f:EF):EF:=λZ=>(f Z).bind λp=>match p.1 with
 | .O (.bV a)=>al (.D<|.d9 a,p.2)
 | _=>am
def TC (ht:uo x)(b:X.N.Nodup)(c:X.N.findIdx? (·==x)=al i)(hx:Loc X.env.scope x)(d:X.fn x=bi\/X.env.scope.names.lookup x=some .local)(g:Fs e (al<|.Name x a) pos.line X.env=pure false)(h:DE X e f):cg X (.Assign [.Name x a] e pos) (gQ i<|oV f):=xM b c hx d g ((λh=>by
  obtain⟨t,p,q⟩:=h;refine⟨_,LG p,λd g Z σ H Hi r Z' Q a S k=>?_⟩;obtain⟨r1,Z1,i,a⟩:=oB a;dsimp only at a;split at a
  ·obtain⟨rfl,rfl⟩:=sP a;refine q d g Z σ H Hi _ _ _ i S λv H1 Hi1 j l m=>?_;obtain⟨p,rfl,b,nl,n,nd⟩:=m;obtain⟨kvs,u,x,np⟩:=id b;refine⟨p,kvs,ρ,u,λo=>?_⟩;obtain⟨y,c⟩:=j.held b nl n nd;exact k _ _ _ y (l.trans c) ⟨p,o,kvs,ρ,aT,x.mono c⟩
  exact nO a) h)
noncomputable def rX:Dat->Dat->Option Res
 | .int i,.int j=>al (.D<|.bl<|bd<|i<j)
 | .str x,.str y=>al (.D<|.bl<|bd<|x.cps.toList<y.cps.toList)
 | _,_=>am
def HJ:fF X (λx y H Q=>(iK λi j=>.bl<|bd<|i<j) x y H Q\/(λx y H Q=>∃i j,x=.str i/\y=.str j/\Q (.bl<|bd<|i.cps.toList<j.cps.toList) H) x y H Q) rX:=by
 intro H0 ps Z σ H Hi x y d d' o Q e S rx a k;delta rX at e;split at e
 ·cases e;subst rx;subst a;exact ι ⟨_,_,ρ,ρ,k _ H Hi S (ag.refl _) ρ⟩
 ·obtain rfl:=sO e;subst rx;subst a;exact τ ⟨_,_,ρ,ρ,k _ H Hi S (ag.refl _) ρ⟩
 exact nO e
def OL (c:DD X a f)(d:DD X b g):DE X (.Compare a [.Lt] [b] pos) (bW rX f g):=pY (aQ.or EG Gb) HJ c d<|j2 _
def MW (c:DD X a f)(d:DD X b g):DT X (.Compare a [.Lt] [b] pos) (dP<|bW rX f g):=l9 (aQ.or EG Gb) HJ c d<|j2 _
end
section
open Sem (wp)
section
variable{prog:kH}{w:pe}{A:qp}{E:cA->ey->Prop}{β:Type}
theorem De:∀(m k j:Nat),j<m->(∀i,k<=i->i<k+j->∀R:ForInStep β->ey->Prop,R (.yield b) s->hX (k5 prog w) A (f i b) R E s)->(∀R:ForInStep β->ey->Prop,R (.done r) s'->hX (k5 prog w) A (f (k+j) b) R E s)->Q r s' ->
  hX (k5 prog w) A (forIn (List.range' k m) b f) Q E s
 | 0,_,_,h,_,_,_=>absurd h (Yw _)
 | m+1,k,0,h,_,hd,q=>by exact cW (hd _<|fm q)
 | m+1,k,j+1,h,a,hd,q=>by rw[abR,aaj];refine cW<|a k (fj _) ⋯ _ ?_;exact De m (k+1) j (by lia) (λi h1 h2=>a i (by lia) (by lia)) (by rw[show k+1+j=k+(j+1) from by lia];exact hd) q
end
section
variable{prog:kH}{w:pe}{A:qp}{E:cA->ey->Prop}{h:ph}{g:Array aaX}{d:Drawn}{t:Nat}{os:OsState}
def M'{l:dn}{its:Array cA}{n j:Nat}{x:e6}{tx:Tok}{a:List e6}{Q:Fin->ey->Prop}{o:Th}(hl:h.get? l=al o)(f:o.cls=.type "tuple")(hd:o.data=.seq its n)(k:YM its.toList a)(p:a[j]?=al x)(s:∀i,i<j->a[i]?≠al x)
 (q:Q (.done<|.ret<|.int (j:Int) t) ⟨h,g,d,t+1,os⟩) :
  hX (k5 prog w) A (Yy.«tuple.index» ⟨[.ref l,.str x tx],[]⟩) Q E ⟨h,g,d,t,os⟩:=by
 obtain⟨cl,bV,D,sl⟩:=o;subst f hd;have len:a.length=its.size:=by rw[<-k.strs];simp
 have v:j<its.size:=by have:=(cm.1 p).1;omega
 have at_:∀i (b:i<its.size),∃y u,its[i]?=al (Xg y u)/\a[i]?=al y:=λi b=>by obtain⟨y,u,e⟩:=k.all its[i] (by simp);refine⟨y,u,by rw[qo b,e],?_⟩;simp only[<-k.strs,c6,px,qo b,e];rfl
 unfold Yy.«tuple.index»;simp only[ab']
 repeat (any_goals (first|assumption|(with_reducible refine De (r:=(al<|.done<|.ret<|.int (j:Int) t,())) (s':=⟨h,g,d,t+1,os⟩) _ _ j ?B ?C ?D ?F)|wp_step))
 case B=>simp[ab9];omega
 case C=>intro i _ b R r;obtain⟨y,u,m,c⟩:=at_ i (by lia);rw[m];refine cW<|Yt ?_;rw[decide_eq_false (λz=>s i (by lia) (by simp only[c,z])),if_neg ZI];exact fm r
 intro R r;rw[I9];obtain⟨y,u,m,c⟩:=at_ j v;rw[p] at c;obtain rfl:=sO c;rw[m];refine cW<|Yt ?_;rw[decide_eq_true ρ,if_pos ρ];refine cW ?_;unfold retInt;exact cW<|wpAny_mkInt<|fm<|fm r
end
end
section
variable{X:Cx}
def Rz(K:ft):V->List V->Hp->VK->Prop:=λx vs H Q=>∃(p:dn) (a:List e6) (y:e6) (j:Nat),x=.ref p/\vs=[.str y]/\aS K H p (a.map V.str)/\a[j]?=al y/\(∀i,i<j->a[i]?≠al y)/\Q (.int (j:Int)) H
def T4:uv X "tuple.index" (Rz X.K):=by intro pins s σ H x vs v us Q I rx d h;obtain⟨p,ss,y,j,rfl,rfl,e,f,g,q⟩:=h;subst rx;obtain⟨u,rfl,i⟩:=d.one;obtain⟨t,rfl⟩:=(i);obtain⟨its,a,⟨o,b,c,n,k⟩,_⟩:=I.tuple e;refine P' aaY ⟨_,b,c⟩ F.entry_tuple_index ?_<|F.args_tuple_index_2 _ _;exact M' b c k (vd a) f g ⟨_,ρ,.int (j:Int),H,I.tok _,⟨_,ρ⟩,q⟩
structure yX (K:ft) (mg:e6->Option cA) (x:e6) (ss:List e6):Prop where
 is:∃(p:dn) (o:Th) (its:Array cA) (n:Nat),mg x=al (.ref p)/\K.lookup p=al o/\o.cls=.type "tuple"/\o.dict=am/\o.data=.seq its n/\its.size<=dk/\aC (ss.map V.str) its.toList
noncomputable def Fx(a:List e6)(fa:AF):DF:=λZ=>(fa Z).bind λq=>match q.1 with
 | [.str y]=>if y∈a then al (.int ((a.idxOf y:Nat):Int),q.2) else am
 | _=>am
theorem EW{b:List e6}{y:e6}(h:y∈b):b[b.idxOf y]?=al y/\∀i,i<b.idxOf y->b[i]?≠al y:=by
 induction b with
 | nil=>contradiction
 | cons a r d =>
  by_cases e:a=y
  ·subst e;rw[List.idxOf_cons_self];exact⟨ρ,λi f=>absurd f<|Yw _⟩
  have h:y∈r:=by
   rcases eS.1 h with rfl|h
   ·exact absurd ρ e
   exact h
  have g:(a::r).idxOf y=r.idxOf y+1:=by
   have c:(a==y)=bn:=by
    cases c:a==y with
    | false=>rfl
    | true=>exact absurd (eq_of_beq c) e
   rw[List.idxOf_cons,c];rfl
  rw[g];refine⟨by simpa using (d h).1,λi f=>?_⟩;cases i with
  | zero=>simpa using e
  | succ i=>simpa using (d h).2 i (by lia)
def J6 (g:yX X.K X.mg x f)(A:Gl X x)(hd:bD x)(i:X6 (.Name x h) "index" X.env (eval (.Name x h) X.env)=eval (.Name x h) X.env)(l:sA X pos e)(j:(c.endLine==pos.line)=bi)(B:bN X e [])(C:DA X [e] fa):DD X (.Call (.Attribute (.Name x h) "index" c) [e] [] pos) (Fx f fa):=by
 obtain⟨t,p,q⟩:=C;obtain⟨a,o,its,n,m,r,s,D,E,G,I⟩:=g.is;refine⟨_,lQ PySem.F.plainAttrs_tuple aaY PySem.F.type_tuple_index T4 (DR (v:=.ref a) A m ρ hd) p i l j B ρ,λJ L Z σ H Hi d Z' Q b S k=>?_⟩;obtain⟨as,Z2,m,b⟩:=oB b;dsimp only at b;split at b
 ·split at b
  ·rename_i y u;obtain⟨rfl,rfl⟩:=sP b;refine⟨τ<|ι ⟨ρ,o,r,s,D⟩,q J L Z σ H Hi _ _ _ m S λvs M w N O P=>?_⟩;obtain⟨z,yr,rfl,R,T⟩:=P;subst T;subst R;exact⟨a,f,y,f.idxOf y,ρ,ρ,τ ⟨o,its,n,r,s,E,G,I⟩,(EW u).1,(EW u).2,k _ M w N O ρ⟩
  exact nO b
 exact nO b
noncomputable def sJ:Nat:=1000
def RP (a:ZN (k5 X.prog X.w) X.A X.env X.xe)(b:DT X c fc)(d:gh X body fb):cg X (.While c body [] pos) (g9 fc fb sJ):=Py sJ a b d
def O6:cg X (.Raise e c p) (λ_=>am):=⟨λ_ _ _=>False,λ_ _ _ _ _ _ h=>Xt h,λ_ _ _ _ _ _ _ _ e=>by cases e⟩
def IQ (ht:nX x)(d:X.N.findIdx? (·==x)=al i)(e:cj X.env.scope x)(hd:bD x)(a:cH x):cO X b (.Name x c) (yR i):=(λr s hd g=>by
  refine⟨_,HD<|fh (dZ r) s hd g,λH0 ps Z σ H Hi items Z' R a S k=>?_⟩;unfold yR at a;split at a
  ·rename_i fz t e;obtain⟨rfl,rfl⟩:=sP a;obtain⟨p,c,⟨_,kvs,u,j,np⟩,nl,n0⟩:=S.O i _ e;refine⟨_,c,p,kvs,ρ,u,λo bs kb=>?_⟩;obtain⟨H1,l,f,v,_⟩:=S.DB kb;obtain⟨p',b,⟨_,kvs',hp',rk',m⟩,_⟩:=l.O i _ e;rw[c] at b;cases b;have sm:=jU (o:=.aV o<|.dT kvs) m;obtain⟨y,A⟩:=l.hold (d':=.aN true t) e c ⟨p,o,kvs,ρ,aT,(j.mono f).mono sm⟩;exact k _ _ _ y (f.trans A)<|ED aT ((j.mono f).mono sm) (Paired.qH v λ_ _ z=>sm _ _ z)
  exact nO a) d e hd a
theorem Tg (ht:nX g)(h:DE X (.Call (.Name g p) a [] pos) f):cO X b (.Call (.Name g p) a [] pos) (vo f):=(λh=>by
  obtain⟨t,n,q⟩:=h;refine⟨_,HD n,λH0 ps Z σ H Hi items Z' R a S k=>?_⟩;unfold vo at a;obtain⟨r,Z1,s,a⟩:=oB a;dsimp only at a;split at a
  ·rename_i x A;obtain⟨rfl,rfl⟩:=sP a;refine q H0 ps Z σ H Hi _ _ _ s S λv B Hi1 C D E=>?_;obtain⟨p,rfl,i,nl,F,nd⟩:=E;obtain⟨_,kvs,G,I,np⟩:=id i;refine⟨p,kvs,ρ,G,λo bs kb=>?_⟩;obtain⟨c,j,g,J,L⟩:=C.DB kb;have b:c p=am:=by
    cases z:c p with
    | none=>rfl
    | some u=>rcases L p u z with y|⟨ts,y⟩;simp_all;have t:=j.sub _ _ z;simp_all
   have l:=i.keeps ρ g b;have sm:=jU (o:=.aV o<|.dT kvs) b;obtain⟨M,N⟩:=j.held l nl F nd;exact k _ _ _ M ((D.trans g).trans N)<|ED aT ((I.mono g).mono sm) (Paired.qH J λ_ _ z=>sm _ _ z)
  exact nO a) h
end
section
variable{X:Cx}{e k:hH}{te tk:TE}{p2 pos:H9}
def LR(K:ft):V->Hp->VK->Prop:=λx H Q=>∃a xs,x=.ref a/\bA K H a xs/\∀p,H p=am->Q (.ref p) (upd H p<|.L xs.reverse)
def Sz(K:ft)(te tk:TE):TE:=fun σ H Q=>te σ H λx a=>tk σ a λi b=>i=.int (-1)/\LR K x b Q
theorem aC.rev (h:aC xs vs):aC xs.reverse vs.reverse:=by
 induction h with
 | nil=>exact .nil
 | cons a b c=>simp only[YN,YN];exact c.append<|.cons a .nil
def Ng(l:PE X e te)(m:PE X k tk):PE X (.Subscript e (.Slice am am (al k) p2) pos) (Sz X.K te tk):=by refine λc s σ H Q I h=>aa5 (aD (l c s σ H _ I h) λv n g=>?_);obtain⟨x,p,t,u,w⟩:=g;apply wpAny_Slice;refine fm<|fm ?_;refine aD (m c n σ p _ t w) λvk d h=>?_;obtain⟨i,y,z,A,B⟩:=h;obtain⟨rfl,a,xs,rfl,hx,q⟩:=B;subst u;obtain⟨tk,rfl⟩:=A;have f:Inv X c σ y {d with heap:=d.heap.push {cls:=.type "slice",data:=.fields #[.none,.none,.int (-1) tk]} }:=z.kept (t':=d.toks) λb C q=>e7 _ q;obtain⟨its,r,g,j⟩:=f.list hx;refine adi g.isList.typeIs aao.lookup ?_ (by with_unfolding_all rfl);refine abc g.isList (aaf ..) .none .none (.int (-1) tk) ⋯ ?_ (by rw[gs,<-r.length];exact j);rw[W.krv_pick];refine⟨.ref _,_,f.laid (λb C q=>e7 _ q) (fj _) ?_,ρ,q _<|f.ak.fresh<|fj _⟩;exact⟨by rw[Xi];exact j,_,0,aC.rev r,ib _ ρ⟩
noncomputable def PH:Dat->Option Res
 | .L ds=>al (.O<|.L ds.reverse)
 | _=>am
def wV(f g:DF):EF:=λZ=>(f Z).bind λp=>(g p.2).bind λq=>match q.1 with|.int i=>if i=-1 then (PH p.1).map λo=>(o,q.2) else am|_=>am
theorem aw.rev{K:ft}{H:Hp}:∀{ds:List Dat}{vs:List V},aw K H ds vs->aw K H ds.reverse vs.reverse
 | [],_,h=>by rw[show _=[] from h];exact ρ
 | _::_,_,a=>by obtain⟨v,r,e,q,t⟩:=a;simp only[e,YN,YN];exact aw.append (aw.rev t) ⟨v,[],ρ,q,ρ⟩
theorem Jf (u:DD X e f)(w:DD X k g):DE X (.Subscript e (.Slice am am (al k) p2) pos) (wV f g):=by
 obtain⟨t,p,q⟩:=u;obtain⟨th,x,y⟩:=w;refine⟨_,Ng p x,λj l Z σ H Hi o Z' Q b S A=>?_⟩;obtain⟨d,Z1,B,b⟩:=oB b;dsimp only at b;obtain⟨a,Z2,C,b⟩:=oB b;dsimp only at b;split at b
 ·rename_i i;by_cases m:i=-1
  case neg=>rw[if_neg m] at b;exact nO b
  subst m;refine q j l Z σ H Hi d Z1 _ B S λv D n E F G=>?_;refine y j l Z1 σ D n _ Z2 _ C E λv2 H3 r c s I=>?_;subst I;have J:=Rep.mono s G;cases d with
  | L ds=>obtain⟨rfl,rfl⟩:=sP b;obtain⟨p,vs,rfl,K,rs⟩:=J;refine⟨ρ,p,vs,ρ,ι<|Rd.mono c.sub K,λz h=>?_⟩;exact A (.ref z) _ r (c.made h) (F.trans s) ⟨z,ρ,⟨_,aT,aw.rev rs,c.cX h⟩,(c.bB h).2,(c.bB h).1,c.dO h⟩
  | _=>exact nO b
 exact nO b
def Ue (a:Gl X "abs")(b:X.mg "abs"=am)(c:bN X e [])(d:DA X [e] fa):DE X (.Call (.Name "abs" p) [e] [] pos) (cb vw fa):=jT (by intro pins s σ H xs us Q I r h;obtain⟨i,rfl,q⟩:=h;obtain⟨u,rfl,t,rfl⟩:=vals1 r;exact call_abs_int λu tk=>⟨.int _,H,I.tok _,⟨_,ρ⟩,q⟩) O1 a b (by decide +kernel) d ⋯ ρ c ρ
def Ol (g:Gl X "range")(i:X.mg "range"=am)(j:nk [a,b] X.env=[(false,eval a X.env),(false,eval b X.env)])(c:nk [b] X.env=[(false,eval b X.env)])(h:DA X [a,b] f):cO X d (.Call (.Name "range" p) [a,b] [] pos) (sF f):=IV g i h j c
end
section
variable{X:Cx}{e:hH}{pos:H9}{pins:List (dn×Th)}{σ:List (Option V)}{H H' H0:Hp}{s:ey}{K:ft}{Hi Hi1:Hp}
noncomputable def codes(x:List e6):List (List Nat):=x.map λa=>a.cps.toList
theorem C8:∀{a b:List e6},codes a=codes b->a=b
 | [],[],_=>rfl
 | [],_::_,h=>by contradiction
 | _::_,[],h=>by contradiction
 | x::a,y::b,h=>by have h:=List.cons.inj h;rw[lU h.1,C8 h.2]
def oR(fs:List (List e6))(i j:Nat):Bool:=bd<|codes (fs.getD i [])<codes (fs.getD j [])
def F7 (h:¬codes a<codes b)(h':¬codes b<codes a):a=b:=C8<|Yh (W8.1 h')<|W8.1 h
def N0 (nd:fs.Nodup):Ord (oR fs) fs.length where
 trans:=λi j k c a=>decide_eq_true<|YS (of_decide_eq_true c)<|of_decide_eq_true a
 total:=λi j d f b=>by
  delta oR;rw[eZ d,eZ f];by_cases h:codes fs[i]<codes fs[j]
  ·exact ι<|decide_eq_true h
  refine τ (decide_eq_true ?_);by_cases a:codes fs[j]<codes fs[i]
  ·exact a
  exact absurd ((W3 nd).1 (F7 h a)) b
 fw:=λi=>decide_eq_false<|XN _
theorem FO:∀(xs ys:List e6) (us a:List cA) (i:Nat),aC (xs.map V.str) us->aC (ys.map V.str) a->Q (bd<|codes xs<codes ys) s->W.KatLex prog w A b (bd<|us.length<a.length) Q (us.zip a) i s
 | [],ys,us,a,i,d,c,q=>by
  cases d;have:bd (codes []<codes ys)=bd (([]:List cA).length<a.length):=by
   rw[<-c.length,bt];cases ys with
   | nil=>rfl
   | cons y ys=>rfl
  rw[this] at q;exact W.kat_nil q
 | x::xs,[],us,a,i,d,c,q=>by
  cases c;rw[show bd (codes (x::xs)<codes [])=bd (us.length<([]:List cA).length) from (decide_eq_false<|List.not_lt_nil _).trans (decide_eq_false<|Yw _).symm] at q;rw[List.zip_nil_right];exact W.kat_nil q
 | x::xs,y::ys,_,_,i,.cons f g,.cons j k,q=>by
  obtain⟨l,rfl⟩:=f;obtain⟨m,rfl⟩:=j;refine ab3<|Yt ?_;by_cases e:x=y
  ·subst e;rw[decide_eq_true ρ];apply W.kat_yes;rw[show bd ((Xg x l::_).length<(Xg x m::_).length)=bd (_<_) from decide_eq_decide.2 Nat.succ_lt_succ_iff];apply FO xs ys _ _ (i+1) g k;have:bd (codes (x::xs)<codes (x::ys))=bd (codes xs<codes ys):=decide_eq_decide.2 ⟨λh=>(W5.1 h).elim (λz=>absurd z<|XN _) λz=>z.2,λh=>W5.2<|τ ⟨ρ,h⟩⟩;simp_all
  rw[decide_eq_false e];have:bd (codes (x::xs)<codes (y::ys))=bd (x.cps.toList<y.cps.toList):=decide_eq_decide.2 ⟨λh=>(W5.1 h).elim id λz=>absurd (lU z.1) e,λh=>W5.2<|ι h⟩;rw[this] at q;apply acK;cases b&&i==0 with
  | true=>exact oneLt_str q
  | false=>exact W.kat_one _ _<|lt_str q
def wt(K:ft)(H:Hp)(vs:List V)(fs:List (List e6)):Prop:=vs.length=fs.length/\∀(i:Nat) (f:List e6),fs[i]?=al f->f≠[]/\∃a,vs[i]?=al (.ref a)/\aS K H a (f.map V.str)
def CA(K:ft):List V->Hp->VK->Prop:=λxs H Q=>∃p vs fs,xs=[.ref p]/\Rd H p (.L vs)/\wt K H vs fs/\fs.Nodup/\vs.length<64/\∀out,uh (oR fs) vs out->∀l,H l=am->Q (.ref l) (upd H l<|.L out)
theorem JN (I:Inv X pins σ H s)(tx:wt X.K H vs fs)(c:aC vs its):∃b:List cA,Za s.heap its b/\b.length=vs.length/\∀v∈b,∀h:ph,ade (k5 X.prog X.w) h (typeOf v) (.type "str"):=by
 have d:nJ X.K H vs (fs.map λf=>f.headD XC):=⟨by rw[bt];exact tx.1,λi f e=>by
  rw[c6] at e;obtain⟨g,j,rfl⟩:=gW.1 e;obtain⟨k,a,l,m⟩:=tx.2 i g j;refine⟨a,_,l,m,?_⟩;cases g with
  | nil=>cases k ρ
  | cons y g=>rfl⟩
 obtain⟨b,n,o,p,_⟩:=kat_tups I d c;refine⟨b,n,by rw[o,bt];exact tx.1.symm,λv q h=>?_⟩;obtain⟨x,t,rfl⟩:=p v q;exact ZU ρ
def OZ (I:Inv X pins σ H s)(tx:wt X.K H vs fs)(k:aC vs its)(i j:Nat)(f:i<vs.length)(g:j<vs.length)(_:i≠j)(h':ph)(c:∀b o xs n,o.data=.seq xs n->s.heap.get? b=al o->h'.get? b=al o)(C:Bool->ey->Prop)(h:C (oR fs i j) {s with heap:=h'}):hX (k5 X.prog X.w) X.A.in1.in1 (acm (tuples'<|aat "str" != .type "tuple") (its.getD i Value.none)<|its.getD j Value.none) C (λ_ _=>False) {s with heap:=h'}:=by rw[tx.1] at f g;obtain⟨_,a,m,p⟩:=tx.2 i _<|cn f;obtain⟨_,b,q,r⟩:=tx.2 j _<|cn g;obtain⟨_,t,u⟩:=k.get m;obtain⟨_,v,x⟩:=k.get q;subst u;subst x;obtain⟨us,y,⟨o,z,hc,n,hd⟩,_⟩:=I.tuple p;obtain⟨B,D,⟨o',l,hc',n',d⟩,_⟩:=I.tuple r;simp only[gm,t,v];apply acL (c _ _ _ _ hd z) hd (c _ _ _ _ d l) d;apply FO fs[i] fs[j] us B 0 y D;delta oR at h;rw[eZ f,eZ g] at h;exact h
def RL(b:X.ex=[]):bP X (.builtin "sorted") (CA X.K):=by intro pins s σ H xs us Q I r h;obtain⟨p,vs,fs,rfl,d,tx,nd,c,q⟩:=h;obtain⟨u,rfl,f⟩:=r.one;subst f;exact A4 b I d c (by rw[tx.1];exact N0 nd) ⋯ (λits a=>JN I tx a) (λits a=>OZ I tx a) q
noncomputable def tupS(f:List e6):Dat:=.U<|f.map .str
noncomputable def wH:List Dat->Option (List<|List e6)
 | []=>al []
 | .U ds::l=>(dH ds).bind λx=>if x.isEmpty then am else (wH l).map (x::·)
 | _=>am
def oS(a b:List e6):Bool:=!bd (codes b<codes a)
def xR(fs:List (List e6)):List (List e6):=fs.mergeSort oS
theorem tZ{a b:List e6}:oS a b=bi ↔ ¬codes b<codes a:=by delta oS;rw[sj,decide_eq_false_iff_not]
def vE:List Dat->Option Res
 | [.L ds]=>(wH ds).bind λfs=>if fs.Nodup/\fs.length<64 then al (.O<|.L<|(xR fs).map tupS) else am
 | _=>am
theorem C5{K:ft}{H Hi:Hp}(s:ag Hi H):∀{ds:List Dat}{vs:List V}{fs:List (List e6)},wH ds=al fs->aw K Hi ds vs->wt K H vs fs/\aw K Hi (fs.map tupS) vs
 | [],_,_,e,r=>by obtain rfl:=sO e;rw[show _=[] from r];exact⟨⟨ρ,λi f e=>by simp at e⟩,ρ⟩
 | d::ds,_,_,e,b=>by
  obtain⟨v,h,j,k,rs⟩:=b;cases d with
  | U us =>
   obtain⟨x,l,e⟩:=oA e;split at e
   ·exact nO e
   rename_i hx;obtain⟨ys,m,e⟩:=oM e;obtain rfl:=sO e;obtain⟨⟨n,o⟩,p⟩:=C5 s m rs;obtain⟨a,ws,rfl,c,g⟩:=k;have q:=lH l g;subst q;rw[j];refine⟨⟨by simp only[gi,gi,n],λi f e=>?_⟩,⟨.ref a,h,ρ,⟨a,_,ρ,c,gE _⟩,p⟩⟩;cases i with
   | zero =>
    cases (Option.some.inj e);exact⟨λz=>hx (by rw[z];rfl),a,ρ,aS.mono s c⟩
   | succ i=>exact o i f e
  | _=>exact nO e
def I0 (P:cQ q fs.length)(U:eV (oR fs) q fs.length):(q.toList.map λi=>fs.getD i [])=xR fs:=by
 have pm:(q.toList.map λi=>fs.getD i []).Perm fs:=by have:=P.pm.map<|λi=>fs.getD i [];rwa[Aa] at this
 apply pU (R:=λa b=>oS a b=bi) (λa b d f=>F7 (tZ.1 f)<|tZ.1 d)<|pm.trans (gn fs oS).symm
 ·rw[oy];intro i j hi m h;have l:j<fs.length:=by rw[<-P.size];simpa using m
  have u:=U i j h l;have g:∀k (hk:k<q.toList.length),q.toList[k]=q.getD k 0:=by simp_all
  simp only[W2,g,g];exact tZ.2 λz=>XN _<|YS (of_decide_eq_true u) z
 refine zb (λa b c d f=>?_) (λa b=>?_) fs;grind [tZ];grind [oS]
def AM (a:X.ex=[])(b:Gl X "sorted")(c:X.mg "sorted"=am)(d:bN X e [])(f:DA X [e] fa):DE X (.Call (.Name "sorted" p) [e] [] pos) (cb vE fa) :=
 jT (RL a) (by
   intro H0 ps Z σ H Hi vs ds o Q a S r k;delta vE at a;split at a
   ·obtain⟨fs,h,a⟩:=oA a;split at a
    ·rename_i d;obtain rfl:=sO a;obtain⟨v,vr,rfl,⟨p,f,rfl,j,rs⟩,m⟩:=r;subst m;obtain⟨tx,rt⟩:=C5 S.sub h rs;have c:=tx.1;refine⟨p,f,fs,ρ,Rd.mono S.sub j,tx,d.1,by rw[c];exact d.2,λout h l hl=>?_⟩;obtain⟨q,P,U,n⟩:=h;rw[c] at P U;have t:=I0 P U;subst n;have g:=aw.pick rt q.toList (λi b=>by rw[c];exact sC P i b);have em:(q.toList.map λi=>(fs.map tupS).getD i .aU)=(xR fs).map tupS:=by rw[<-t,gk];refine wm λi b=>?_;have b:=sC P i b;show _=tupS (fs.getD i []);rw[eZ (by rw[bt];exact b),eZ b,W2]
     rw[em] at g;exact k (.ref l) _ Hi (S.made hl) (ag.refl _) ⟨l,ρ,⟨_,aT,g,S.cX hl⟩,(S.bB hl).2,(S.bB hl).1,S.dO hl⟩
    exact nO a
   exact nO a) b c (by decide +kernel) f ⋯ rfl d rfl
structure xD (x:e6):Prop where
 mark:True
def E1:List V->Hp->VK->Prop:=fun xs H Q=>∃(p:dn) (kvs:List (Key×V)) (a:List e6),xs=[.ref p]/\Rd H p (.dK kvs)/\kvs.map (·.1)=a.map uy/\kvs.length<64/\∀l,H l=am->Q (.ref l) (upd H l<|.L<|a.map V.str)
theorem MG(n:X.calm=bi):bP X (.type "list") E1:=by
 intro pins s σ H xs us Q I r h;obtain⟨p,kvs,b,rfl,o,f,h64,q⟩:=h;obtain⟨u,rfl,t⟩:=r.one;subst t;obtain⟨z,lo,g,c,dd⟩:=kR I.ak o;obtain⟨ep,i⟩:=dd.dictAt;have hkl:=c.length;have l:=c.keys;have hss:b.length=kvs.length:=by have:=congrArg List.length f;simpa using this.symm
 refine W.kdl_call (W.kdl_dict (knd:=cF X.prog X.w) (kvs:=g) (ep:=ep) lo) (I.ok.hd n) i (by rw[zd];lia) fun h' tk d c' kp e ac=>?_;have v:YM d.toList b:=zI (by rw[qh,ac.1];lia) fun j u e=>by
  obtain⟨k,x,A,B⟩:=ac.2 j u (by simpa using e);have a:(g.map (·.1))[j]?=al k:=by rw[c6,A];rfl
  simp only[<-l,f,c6] at a;cases m:b[j]? with
  | none=>rw[m] at a;exact nO a
  | some y=>rw[m] at a;obtain rfl:=sO a;exact⟨y,ρ,B⟩
 exact⟨.ref _,_,I.laid (t':=tk) kp (fj _) (show cB X.prog X.w _ h' _ (.L<|b.map V.str) from ⟨by rw[bt,zd];lia,d.toList,c',uZ v,by simpa using e⟩),ρ,q _<|I.ak.fresh<|fj _⟩
def G':R2:=fun x y H Q=>∃i j,x=.str i/\y=.str j/\Q (.bl<|bd<|j.cps.toList<i.cps.toList) H
theorem Jq:aQ X (mu .Gt) G':=by intro pins s σ H x y v u Q I rx a h;obtain⟨i,j,rfl,rfl,q⟩:=h;obtain⟨t,rfl⟩:=rx;obtain⟨t',rfl⟩:=a;exact PySem.P.gt_str<|xP I q ρ
noncomputable def tR:Dat->Dat->Option Res
 | .str i,.str j=>al (.D<|.bl<|bd<|j.cps.toList<i.cps.toList)
 | _,_=>am
theorem OI:fF X G' tR:=by
 intro H0 ps Z σ H Hi x y d d' o Q e S rx a k;unfold tR at e;split at e
 ·obtain rfl:=sO e;subst rx;subst a;exact⟨_,_,ρ,ρ,k _ H Hi S (ag.refl _) ρ⟩
 exact nO e
theorem RN{a b:hH}{f g:DF}(c:DD X a f)(d:DD X b g):DT X (.Compare a [.Gt] [b] pos) (dP<|bW tR f g):=l9 Jq OI c d<|j2 _
structure xn:Prop where
 ok:True
theorem OE{a b:hH}{f g:DF}(ht:xn)(c:DD X a f)(d:DD X b g):DT X (.Compare a [.Gt] [b] pos) (dP<|bW tR f g):=RN c d
noncomputable def vO:List Dat->Option Res
 | [.d9 a]=>if a.length<64 then al (.O (.L ((a.map (·.1)).map .str))) else am
 | _=>am
theorem O8:CD X E1 vO:=by
 intro H0 ps Z σ H Hi vs ds o Q a S r k;unfold vO at a;split at a
 ·rename_i c;split at a
  ·rename_i d;obtain rfl:=sO a;obtain⟨v,vr,rfl,⟨p,f,kvs,rfl,g,b⟩,h⟩:=r;subst h;refine⟨p,kvs,c.map (·.1),ρ,τ ⟨f,S.sub _ _ g⟩,rG b,by rw[bC.length b];exact d,fun l hl=>?_⟩;exact k (.ref l) _ Hi (S.made hl) (ag.refl _) ⟨l,ρ,⟨_,aT,gE _,S.cX hl⟩,(S.bB hl).2,(S.bB hl).1,S.dO hl⟩
  exact nO a
 exact nO a
theorem JE{x:e6}{fa:AF}{p a:H9}(ht:xD x)(b:X.calm=bi)(c:Gl X "list")(d:X.mg "list"=am)(f:nk [.Name x a] X.env=(false,eval (.Name x a) X.env)::nk [] X.env)(g:DA X [.Name x a] fa):DE X (.Call (.Name "list" p) [.Name x a] [] pos) (cb vO fa):=tz (MG b) O8 c d (by decide +kernel) g (by decide) (by decide) f ρ
def An:List Dat->Option Res
 | [.U ds]=>(dH ds).bind fun a=>if a.length<64 then al (.O<|.L<|(bp a).map .str) else am
 | _=>am
theorem Kl:CD X (AX X.K) An:=by
 intro H0 ps Z σ H Hi vs ds o Q a S r k;unfold An at a;split at a
 ·obtain⟨b,c,a⟩:=oA a;split at a
  ·rename_i d;obtain rfl:=sO a;obtain⟨v,vr,rfl,⟨p,ws,rfl,f,rs⟩,g⟩:=r;subst g;have h:=lH c rs;subst h;exact⟨p,b,ρ,aS.mono S.sub f,d,fun l hl=>k (.ref l) _ Hi (S.made hl) (ag.refl _) ⟨l,ρ,⟨_,aT,gE _,S.cX hl⟩,(S.bB hl).2,(S.bB hl).1,S.dO hl⟩⟩
  exact nO a
 exact nO a
structure Gc (x:e6):Prop where
 ok:True
theorem SX{x:e6}{fa:AF}{p a:H9}(ht:Gc x)(b:Gl X "sorted")(c:X.mg "sorted"=am)(d:nk [.Name x a] X.env=(false,eval (.Name x a) X.env)::nk [] X.env)(f:DA X [.Name x a] fa):DE X (.Call (.Name "sorted" p) [.Name x a] [] pos) (cb An fa) :=
 jT EH Kl b c (by decide +kernel) f (by decide) (by decide) d rfl
def kf(H0 H H':Hp):Prop:=∀b,H' b=H b\/((∀o u,H0 b≠al (.aV o u))/\∃o xs,H b=al (.aV o<|.L xs)/\H' b=al (.L xs))
theorem kf.none(t:kf H0 H H'){b:dn}(h:H b=am):H' b=am:=by
 rcases t b with e|⟨_,o,xs,e,_⟩
 ·rw[e];exact h
 rw[h] at e;cases e
theorem kf.U(t:kf H0 H H'){b:dn}{xs:List V}(h:H b=al (.U xs)):H' b=al (.U xs):=by
 rcases t b with e|⟨_,o,ys,e,_⟩
 ·rw[e];exact h
 rw[h] at e;cases e
theorem kf.O(t:kf H0 H H'){b a:dn}(h:H b=al (.O a)):H' b=al (.O a):=by
 rcases t b with e|⟨_,o,ys,e,_⟩
 ·rw[e];exact h
 rw[h] at e;cases e
theorem Inv.yK(I:Inv X pins σ H s)(t:kf X.ki H H'):Inv X pins σ H' s where
 ok:=I.ok
 os:=I.os
 bare:=I.bare
 base:=⟨I.base.keep,I.base.slot,fun b o e n x=>t.none<|I.base.free b o e n x,I.base.there,fun b xs e=>t.U<|I.base.jo b xs e,fun b o u e=>(by
  rcases t b with z|⟨n,_⟩
  ·rw[z];exact I.base.iP b o u e
  ·exact absurd e<|n o u),fun b f e=>(by
  rcases t b with z|⟨n,o,xs,y,_⟩
  ·rw[z];exact I.base.iM b f e
  obtain⟨more,z⟩:=I.base.iM b f e;rw[y] at z;cases z)⟩
 loc:=I.loc
 cell:=I.cell
 free:=t.none I.free
 hJ:=fun x c e=>t.none<|I.hJ x c e
 pin:=fun p d=>⟨(I.pin p d).1,t.none (I.pin p d).2.1,(I.pin p d).2.2⟩
 ak:=fun a o e=>by
  rcases t a with z|⟨n,o',xs,g,i⟩
  ·rw[z] at e;exact (I.ak a o e).gp (fun _ _ _ h=>h) (fun b h=>t.O h) fun b xs h=>t.U h
  rw[i] at e;cases e;exact (I.ak a _ g).2
 len:=I.len
theorem dF.yK{st:List Xs}{t:TS}(h:dF X st t):dF X st (fun D σ H=>∃H',kf X.ki H H'/\t D σ H'):=fun pins s σ H D I ⟨H',a,q⟩=>h pins s σ H' D (I.yK a) q
noncomputable def jR(Hi:Hp)(as:List dn):Hp:=fun b=>haveI:=fun p=>XU p;if b∈as\/∃xs,Rd Hi b (.U xs) then Hi b else am
theorem qW{as:List dn}:ag (jR Hi as) Hi:=fun b o e=>by
 unfold jR at e;split at e
 ·exact e
 cases e
theorem FN{as:List dn}{b:dn}(h:b∈as):jR Hi as b=Hi b:=if_pos<|ι h
theorem GG{as:List dn}{b:dn}(h:b∉as)(h':∀xs,¬Rd Hi b (.U xs)):jR Hi as b=am:=if_neg fun z=>by
 rcases z with z|⟨xs,z⟩
 ·exact h z
 exact h' xs z
theorem C9{as:List dn}{b:dn}{u:HO}(h:b∈as)(r:Rd Hi b u):Rd (jR Hi as) b u:=by unfold Rd;rw[FN h];exact r
theorem kS:∀{a:List e6}{vs:List V},aw K H (a.map Dat.str) vs->vs=a.map V.str
 | [],_,r=>r
 | x::a,_,⟨v,r,rfl,q,t⟩=>by
  cases (show v=.str x from q);rw[kS t];rfl
theorem Rd.one{b:dn}{u a:HO}(h:Rd Hi b u)(h':Rd Hi b a)(d:∀o x,u≠.aV o x)(c:∀o x,a≠.aV o x):u=a:=by
 rcases h with h|⟨o,h⟩<;>rcases h' with h'|⟨o',h'⟩<;>rw[h] at h'<;>cases h'
 ·rfl
 ·exact absurd ρ<|d _ _
 ·exact absurd ρ<|c _ _
 rfl
end
section
namespace Mq
open Lean
def wk(k:String):MacroM (TSyntax `tactic):=`(tactic|walk_at $(Syntax.mkStrLit k):str)
def tc(c:Char):MacroM (TSyntax `tactic):=match c with
|'='=>`(tactic|with_reducible assumption)
|'r'=>`(tactic|rfl)
|'a'=>`(tactic|assumption)
|'d'=>`(tactic|decide)
|'e'=>`(tactic|exact ρ)
|'f'=>`(tactic|exact fun _=>rfl)
|'g'=>`(tactic|exact fun _ _=>rfl)
|'h'=>`(tactic|exact lS (by assumption))
|'i'=>`(tactic|exact wQ (by assumption))
|'j'=>`(tactic|exact rA (by assumption))
|'n'=>`(tactic|exact m9 (by rfl))
|'p'=>`(tactic|(intro _ _ _ _ _;walk_at "G"))
|'t'=>`(tactic|(intro _ _ _ _ _;walk_at "J"))
|'u'=>`(tactic|(intro _ _ _ _ _;walk_at "D"))
|'w'=>`(tactic|exact XR)
|'x'=>`(tactic|(simp[jk,g8, *];done))
|'s'=>`(tactic|(first | rfl | assumption | (simp[*];done)))
|'q'=>`(tactic|first | assumption | rfl | decide +kernel)
|'2'=>`(tactic|(first | assumption | (simp[dk];done)))
|c=>wk c.toString
def ru(s:String):MacroM (TSyntax `tactic):=do
 if s.front=='>' then return (← wk (s.drop 1).toString)
 if s.front=='.' then return (← tc s.back)
 let b:=s.front=='!';let p:=(if b then (s.drop 1).toString else s).splitOn " ";let f:=mkIdent p.head!.toName;let mut h:=#[];let mut t:=#[]
 for c in (p.getD 1 "").toList do
  if c=='_' then h:=h.push (← `(?_))
  else
   let n:=mkIdent<|← Macro.addMacroScope (.mkSimple s!"x{h.size}")
   h:=h.push<|← `(?$n:ident)
   t:=t.push<|← `(tactic|case $n:ident=>$(← tc c):tactic)
 let r← if b then `(tactic|with_reducible refine' $f $h*) else `(tactic|refine' $f $h*)
 t.foldlM (fun r x=>`(tactic|($r:tactic;$x:tactic))) r
def ra(s:String):MacroM (TSyntax `tactic):=do
 match s.splitOn "&" with
 |f::l=>
  let l←l.mapM ru
  match l.reverse with
  |[]=>ru s
  |x::l=>l.foldlM (fun y x=>`(tactic|(refine' $(mkIdent f.toName) ?m ?n;(case m=>$x:tactic);(case n=>$y:tactic)))) x
 |[]=>ru s
def fs(s:String):MacroM Syntax:=do
 let l←(s.splitOn "|").mapM ra
 return (← l.reverse.foldlM (fun y x=>`(tactic|first|$x:tactic|$y:tactic)) (← `(tactic|fail)))
end Mq
local macro_rules | `(tactic| walk_at "r0")=>`(tactic| exact Ye rfl)
local macro_rules | `(tactic| walk_at "r1")=>`(tactic| exact X3<|Ye rfl)
local macro_rules | `(tactic| walk_at "r2")=>`(tactic| exact X3<|X3 rfl)
local macro_rules | `(tactic| walk_at "V")=>Mq.fs ">r0|>r1|>r2"
local macro_rules | `(tactic| walk_at "r3")=>`(tactic| exact X3 rfl)
local macro_rules | `(tactic| walk_at "L")=>Mq.fs ">r0|>r3"
local macro_rules | `(tactic| walk_at "F")=>Mq.fs ">r0|>r3"
local macro_rules | `(tactic| walk_at "r4")=>`(tactic| exact rC (by rfl))
local macro_rules | `(tactic| walk_at "N")=>Mq.fs ".a|>r4"
local macro_rules | `(tactic| walk_at "r5")=>`(tactic| exact bY.mono (by assumption) (by decide))
local macro_rules | `(tactic| walk_at "R")=>Mq.fs ".a|>r5"
local macro_rules | `(tactic| walk_at "A")=>Mq.fs "Qj|Q3 rDA"
local macro_rules | `(tactic| walk_at "B")=>Mq.fs "RY rVrddA"
local macro_rules | `(tactic| walk_at "O")=>Mq.fs "Qz|To D"
local macro_rules | `(tactic| walk_at "G")=>Mq.fs "Qm NrLF|La rrrH"
local macro_rules | `(tactic| walk_at "H")=>Mq.fs "Uo|NS rGH"
local macro_rules | `(tactic| walk_at "I")=>Mq.fs "Cm rarA|cO.alt&QX D&Tz D"
local macro_rules | `(tactic| walk_at "J")=>Mq.fs "Jd|MQ T"
local macro_rules | `(tactic| walk_at "1")=>Mq.fs "RT|Se|Sr|JR rVdd|T8 ard|RF rVhddgD|OT hgDD|MR A|Mg D|Pm DD|Nr DD|Rh D|PJ rDDD|Np rVradd|Qa rararD|QO rararD|R6 rararD|MY rrrrD"
local macro_rules | `(tactic| walk_at "D")=>Mq.fs ">1|DE.dd 0"
local macro_rules | `(tactic| walk_at "0")=>Mq.fs "SU DD|LP DD|DE.alt&Ma DD&KP DD|KY DD|Tx DD|R8 DD|IA iDD|T1 iDD|ID DD|Nm jrDD|PK jrDD|NM A|Mj DOO|B4 aarrrrnrfIptu|FE arrnrfIptu|MH arRdrrA|Lr arRdrrB|Q9 rarA|O7 rrarA|PV rrarrA|Jx rrarrA"
local macro_rules | `(tactic| walk_at "E")=>Mq.fs ">0|DD.de 1"
local macro_rules | `(tactic| walk_at "W")=>Mq.fs "TY T|Ij T|MM TW|IT TW"
local macro_rules | `(tactic| walk_at "T")=>Mq.fs "RM iDD|LY iDD|T7 DD|Rp DD|IW jrDD|Ie jrDD|Qr rDDD|KA T|DW.dt W|Ic fD"
local macro_rules | `(tactic| walk_at "M")=>Mq.fs "BB rVdd|>E"
local macro_rules | `(tactic| walk_at "Z")=>Mq.fs "D4 M|xM NrLFrE|Tb arrLFrrnrfIptu|cg.alt&O3 rVddfrrrDD&Mv rVhddrDD|SN rrrDG|GL rVddrrrrrA|Nk wrfIGS|zY TSS"
local macro_rules | `(tactic| walk_at "S")=>Mq.fs "pM|mv ZS"
local macro_rules | `(tactic|walk_at "h")=>`(tactic|(intros;cases ‹Txt _›;walk_at "S"))
local macro_rules | `(tactic| walk_at "P")=>Mq.fs ".a|.r"
local macro_rules | `(tactic| walk_at "c")=>Mq.fs "lZ|kL P|mR x|EN x"
local macro_rules | `(tactic| walk_at "r6")=>`(tactic| (simp[mZ,mH,As,iF,fX,p7, *];done))
local macro_rules | `(tactic| walk_at "r7")=>`(tactic| (simp[mZ,mH,As,iF,fX];omega))
local macro_rules | `(tactic| walk_at "r8")=>`(tactic| decide +kernel)
local macro_rules | `(tactic| walk_at "y")=>Mq.fs ".r|.a|>r6|>r7|>r8"
local macro_rules | `(tactic| walk_at "o")=>Mq.fs ".=|yW s|B9|wX qq|v_eq cc|qj cc|EY 2|pL 2|.e"
local macro_rules | `(tactic| walk_at "z")=>Mq.fs ".=|.e"
local macro_rules | `(tactic| walk_at "k")=>Mq.fs "Cu yv|nz yv"
local macro_rules | `(tactic| walk_at "Q")=>Mq.fs "!MO ee|!Uw|!uI v"
local macro_rules | `(tactic| walk_at "m")=>Mq.fs "!Od|!Uz|.e"
local macro_rules | `(tactic| walk_at "v")=>Mq.fs ".=|!ao|!af vv|!uu vQ|!yz vk|!Au v|!nc vz|!GU vz|!oQ v|!v_and vk|!mK vv|!v_or vk|!BA vv|!mG v|!fq vz|!bM v|!uV vv|!wG vv|!v_res v|!ai vm|!au vvo|!RO vz|!aO vz|!dM eveze|!cG v2|!gv v2|!Dp vvz|!bc evez|!fH ez|!Ml v|!Gm vvovo|!vD veveze|!gB v|!zK ev|.e"
local macro_rules | `(tactic| walk_at "Y")=>Mq.fs "cg.calm Z|zY TXX"
local macro_rules | `(tactic| walk_at "X")=>Mq.fs "pM|mv YX"
local macro_rules | `(tactic| walk_at "r9")=>`(tactic| repeat (first|(with_reducible refine' aj ?_)|(with_reducible refine' aq ?_)|(with_reducible refine' dS ?_)|((with_reducible refine' aH ?p ?q ?_);(case p=>walk_at "v");(case q=>exact rfl))|((with_reducible refine' Dd ?p ?q ?_);(case p=>walk_at "v");(case q=>exact rfl))|((with_reducible refine' nT ?p ?_);(case p=>walk_at "v"))|((with_reducible refine' cc ?p ?_);(case p=>walk_at "v"))|(with_reducible refine' aZ ?_)|fail))
local macro_rules | `(tactic| walk_at "w")=>`(tactic| repeat (first|(with_reducible refine' aj ?_)|(with_reducible refine' aq ?_)|(with_reducible refine' dS ?_)|((with_reducible refine' aH ?p ?q ?_);(case p=>walk_at "v");(case q=>exact rfl))|((with_reducible refine' Dd ?p ?q ?_);(case p=>walk_at "v");(case q=>exact rfl))|((with_reducible refine' nT ?p ?_);(case p=>walk_at "v"))|((with_reducible refine' cc ?p ?_);(case p=>walk_at "v"))|(with_reducible refine' aZ ?_)|fail))
local macro_rules | `(tactic| walk_at "r10")=>`(tactic| ((with_reducible refine' BU ?_);walk_at "wb"))
local macro_rules | `(tactic| walk_at "wb")=>`(tactic| first|((with_reducible refine' uL ?p ?_);(case p=>walk_at "v"))|((with_reducible refine' BU ?_);walk_at "wb")|fail)
local macro_rules | `(tactic| walk_at "r11")=>`(tactic| ((with_reducible refine' AI ?_);walk_at "wb"))
local macro_rules | `(tactic| walk_at "wif")=>`(tactic| ((with_reducible refine' AI ?_);walk_at "wb"))
local macro_rules | `(tactic| walk_at "1")=>Mq.fs "Uu aarD"
local macro_rules | `(tactic| walk_at "0")=>Mq.fs "Ut aaRrD"
local macro_rules | `(tactic| walk_at "r12")=>`(tactic| (refine' HH ?a ?b;(case a=>walk_at "Y");(case b=>walk_at "dsk")))
local macro_rules | `(tactic| walk_at "dsk")=>Mq.fs "Dk|>r12"
local macro_rules | `(tactic| walk_at "r13")=>`(tactic| (refine' HH ?a ?b;(case a=>walk_at "Z");(case b=>walk_at "dskc")))
local macro_rules | `(tactic| walk_at "dskc")=>Mq.fs "Dk|>r13"
section
variable{P:kH}{w:pe}{K:ft}{mg:e6->Option cA}{base:ph}
def intBits_le (h:i.natAbs<2 ^ n):sW i<=n:=by
 delta sW;split
 ·lia
 rename_i z;have:=(ac5 (by intro e;exact z (by simpa using e))).2 h;lia
def uf (h:j.natAbs<2 ^ 64):fL i j=bi:=by have:=intBits_le h;delta fL Zs;rw[show bd (sW j>64)=bn from decide_eq_false (by lia)];simp
def Av (h:i.natAbs<2 ^ 64):fL i j=bi:=by have:=intBits_le h;delta fL Zs;rw[show bd (sW i>64)=bn from decide_eq_false (by lia)];simp
end
structure bf (x:e6):Prop where
 vf:x.cps.all (·<128)=bi
 len:x.length<=99
def GW (h:x.cps.all (·<128)=bi):u3 x=bi:=by delta u3;rw[Zz] at h ⊢;intro c a;have:=h c a;lia
def bf.ok (h:bf x):u3 x=bi:=GW h.vf
noncomputable def pD(p:Int×Int):Dat:=.L [.int p.1,.int p.2]
def Pu{m:Int}(h:m.natAbs<2 ^ 9000):m.natAbs.log2<9000:=by
 by_cases z:m.natAbs=0
 ·rw[z];decide
 exact (ac5 z).2 h
def iV(ds)(i):cp (.L ds) (.int i)=di ds i:=ρ
noncomputable def iu(c:Nat):Bool:=bd (97<=c)&&bd (c<=122)
noncomputable def dW(x:e6):Bool:=bd (x="north")||bd (x="east")||bd (x="south")||bd (x="west")
def dD(x:e6):Bool:=bd (0<x.length)&&bd (x.length<9)&&x.cps.toList.all iu&&!dW x
def NO(c):((!bd (([c]:List Nat)<[97]))&&!bd (([122]:List Nat)<[c]))=iu c:=by
 unfold iu;have e1:bd (([c]:List Nat)<[97])=bd (c<97):=by simp[W5]
 have e2:bd (([122]:List Nat)<[c])=bd (122<c):=by simp[W5]
 lia
def Hb (h:bf x):x.length<=sizeLine:=ia h.len (by simp[dk])
def Bq{x:e6}(hx:u3 x=bi){ys:List e6}(b:∀y∈ys,u3 y=bi)(neg:Bool):dU neg (.str x) (.L<|ys.map .str)=al (.D<|.bl (if neg then !(ys.any λy=>bd<|y=x) else ys.any λy=>bd<|y=x)):=by
 have c:bJ (.L<|ys.map .str)=bi:=mR (by show (ys.map Dat.str).all g8=bi;rw[mA];intro d hd;obtain⟨y,a,rfl⟩:=bg.1 hd;exact b y a)
 show (if (bJ (.str x)&&bJ (.L<|ys.map .str))=bi then al (Res.D<|.bl (if neg then !inD (.str x) (ys.map .str) else inD (.str x) (ys.map .str))) else am)=_;rw[kL hx,c];have e:inD (.str x) (ys.map .str)=ys.any λy=>bd (y=x):=by rw[p7,Y7];rfl
 rw[e];rfl
def Ub{x:e6}(hx:u3 x=bi){ys:List e6}(b:∀y∈ys,u3 y=bi)(neg:Bool):dU neg (.str x) (.U<|ys.map .str)=al (.D<|.bl (if neg then !(ys.any λy=>bd<|y=x) else ys.any λy=>bd<|y=x)):=by
 have c:bJ (.U<|ys.map .str)=bi:=mR (by show (ys.map Dat.str).all g8=bi;rw[mA];intro d hd;obtain⟨y,a,rfl⟩:=bg.1 hd;exact b y a)
 show (if (bJ (.str x)&&bJ (.U<|ys.map .str))=bi then al (Res.D<|.bl (if neg then !inD (.str x) (ys.map .str) else inD (.str x) (ys.map .str))) else am)=_;rw[kL hx,c];have e:inD (.str x) (ys.map .str)=ys.any λy=>bd (y=x):=by rw[p7,Y7];rfl
 rw[e];rfl
noncomputable def tf:List Str:=["north","east","south","west"]
def CT:∀y∈tf,u3 y=bi:=by decide +kernel
def zN(x):(tf.any λy=>bd<|y=x)=dW x:=by simp[tf,dW,eq_comm,Bool.or_assoc]
def TU (hx:u3 x=bi)(neg):dU neg (.str x) (.L [.str "north",.str "east",.str "south",.str "west"])=al (.D<|.bl (if neg then !dW x else dW x)):=by have:=Bq hx CT neg;rwa[zN] at this
def pO (hx:u3 x=bi)(neg):dU neg (.str x) (.U [.str "north",.str "east",.str "south",.str "west"])=al (.D<|.bl (if neg then !dW x else dW x)):=by have:=Ub hx CT neg;rwa[zN] at this
section
variable{P:kH}{w:pe}{K:ft}{mg:e6->Option cA}{base:ph}
def Fz(fn:a8):Prop:=∀x,bf x->fn [.str x]=al (.D<|.bl<|dD x)
theorem Jm(T:Txt mg)(m:fQ K mg "WALLS" (.U [.str "north",.str "east",.str "south",.str "west"]))(o:fQ K mg "LONGEST_NAME" (.int 8)){f:dn}{j:kq}(F:bz K "is_name" "is_name" yT f j):∃fn,br P w K mg base bj 1 f j ["thing"] (aI K fn)/\Fz fn:=by
 refine' cI F Hm ρ ?C ?B
 case C=>have nd:=Hm.nd;walk_at "h"
 intro x tx;have iw:=pO tx.ok false;have hl:dg (.str x)=al x.length:=if_pos<|Hb tx;refine' dz ρ ?w
 case w =>
  walk_at "w";walk_at "wif";refine⟨fun hw=>?_,fun hw=>?_⟩
  ·have hw:dW x=bi:=hw;walk_at "w";refine km ?_;delta dD;rw[hw];simp
  have hw:dW x=bn:=hw;walk_at "w";walk_at "wif";refine⟨fun b=>?_,fun b=>?_⟩
  ·walk_at "w";refine km ?_;unfold dD;simp at b;simp;intro k l;omega
  walk_at "w";refine' Mz<|QW<|R9<|HV<|Uc (QE (fun x=>[.no,.D x]) (fun _=>true) (fun d=>match d with|.str y=>.bl (y.cps.toList.all iu)|_=>.aU) (Kc ?i tx.vf) ρ ?z ?g ?c ?e ?n)<|Q6 ?q
  case i=>walk_at "v"
  case z=>rw[bt,qh];exact Hb tx
  case g=>intro y a Z hd;rcases hd with rfl|⟨z,rfl⟩<;>rfl
  case c=>intro y a;rfl
  case e=>intro y a _;obtain⟨c,p,rfl⟩:=bg.1 a;show lE iG iG (fC<|.str "a") (cf 1) (fC<|.str "z") [.no,.D<|.str ⟨#[c]⟩]=al (.bl<|([c]:List Nat).all iu,[.no,.D<|.str ⟨#[c]⟩]);have r:iG (.str "a") (.str ⟨#[c]⟩)=al (.D<|.bl<|!bd (([c]:List Nat)<[97])):=ρ;have t:iG (.str ⟨#[c]⟩) (.str "z")=al (.D<|.bl<|!bd (([122]:List Nat)<[c])):=ρ;have:=Gm (o1:=iG) (o2:=iG) (f:=fC<|.str "a") (g:=cf 1) (h:=fC<|.str "z") (Z:=[.no,.D<|.str ⟨#[c]⟩]) ρ ρ r ρ t;rw[this,NO];simp
  case n=>intro y a;rfl
  have e:((x.cps.toList.map fun c=>Dat.str ⟨#[c]⟩).filter fun _=>true).map (fun d=>match d with|.str y=>Dat.bl (y.cps.toList.all iu)|_=>Dat.aU)=x.cps.toList.map fun c=>Dat.bl (iu c):=by rw[abk.2 (by intros;rfl),gk];apply wm;intro c p;simp
  refine⟨.D<|.bl<|dD x,?_,_,ρ⟩;show pV [.L _]=_;rw[e];show (j4 _).map _=_;rw[vU];simp at b;have k:bd (0<x.length)=bi:=by simp;omega
  have l:bd (x.length<9)=bi:=by simp;omega
  simp[dD,hw,k,l,acC,Function.comp]
end
abbrev Fl:=Uj e6
def aJ(x:e6×Ob):Dat:=.U [.str x.1,.int x.2.l,.int x.2.b,.int x.2.r,.int x.2.t]
def aX(rs:Fl):Dat:=.L<|rs.map aJ
section
variable{P:kH}{w:pe}{K:ft}{mg:e6->Option cA}{base:ph}
theorem LI{i:Int}(h:0<=i)(h':i<26):cp (.str "abcdefghijklmnopqrstuvwxyz") (.int i)=al (.str ⟨#[97+i.toNat]⟩):=by
 have key:∀j:Fin 26,(iN "abcdefghijklmnopqrstuvwxyz").cps.toList[j.val]?=al (97+j.val):=by decide +kernel
 have e:=key ⟨i.toNat,by lia⟩;have a:=iY e;rw[Xl h] at a;show (if (iN "abcdefghijklmnopqrstuvwxyz").length<=dk then (di (iN "abcdefghijklmnopqrstuvwxyz").cps.toList i).map (fun c=>Dat.str ⟨#[c]⟩) else am)=_;rw[if_pos (by rw[show (iN "abcdefghijklmnopqrstuvwxyz").length=26 from by decide +kernel];simp[dk]),a];rfl
theorem ux{n:Int}{k:Nat}{x:Dat}(h:(cN 0 n)[k]?=al x):(k:Int)<n/\x=.int k:=by have h1:=(cm.1 h).1;simp_all [cN]
theorem mV{i:Nat}{Z:DS}{xs:List Dat}{d:Dat}{fa:AF}(h:(Z[i]?).bind ownOf=al (false,.L xs))(a:fa Z=al ([d],Z))(hl:xs.length<dk):iS i o9 fa Z=al (.aU,Z.set i<|.O<|.L<|xs++[d]):=by delta iS;rw[h];rw[a];show ((Z[i]?).bind ownOf).bind _=_;rw[h];show (if xs.length<dk then al (Dat.aU,Dat.L<|xs++[d]) else am).map _=_;rw[if_pos hl];rfl
theorem join_one:∀cs:List Nat,(abg (iN "") (cs.map fun c=>(⟨#[c]⟩:e6))).cps.toList=cs
 | []=>rfl
 | [c]=>rfl
 | c::d::r=>by
  have e:(iN "").cps=#[]:=by decide +kernel
  show ((⟨#[c]⟩:e6)++iN "" ++ abg (iN "") ((d::r).map fun c=>(⟨#[c]⟩:e6))).cps.toList=_;simp only[XP,e,Xd,join_one (d::r)];simp
theorem Iw(cs:List Nat):(YZ (iN "") (cs.map fun c=>(⟨#[c]⟩:e6))).cps.toList=cs:=by simp[YZ,StrLaws.glued_eq_join,join_one]
theorem Ce{a:Type}(f:a->e6):∀cs:List a,dH (cs.map fun c=>.str<|f c)=al (cs.map f)
 | []=>rfl
 | c::cs=>by simp only[iW,dH,Ce f cs];rfl
structure va (c:Nat) (x:e6):Prop where
 fst:x.cps.toList[0]?=al c
 vf:∀a∈x.cps.toList,iu a=bi
 len:x.cps.toList.length<=8
theorem SQ{i:Int}(h:0<=i)(h':i<26):iu (97+i.toNat)=bi:=by delta iu;simp;lia
theorem va.nm{c:Nat}{x:e6}(h:va c x)(hw:dW x=bn):dD x=bi:=by have b:=h.len;have a:=(cm.1 h.fst).1;have b:x.length<=8:=b;have a:0<x.length:=a;delta dD;simp only[hw,decide_eq_true a,decide_eq_true (by lia:x.length<9),mA.2 h.vf];rfl
theorem QJ(x:e6):dW (x++iN "x")=bn:=by
 cases e:dW (x++iN "x") with
 | false=>rfl
 | true =>
  have key:∀y∈tf,y.cps.toList.getLast?≠al 120:=by decide +kernel
  have:(tf.any fun y=>bd<|y=x++iN "x")=bi:=by rw[zN];exact e
  obtain⟨y,a,e⟩:=n4.1 this;have e:y=x++iN "x":=by simpa using e
  refine absurd ?_<|key y a;simp only[e,XP,Xd,show (iN "x").cps.toList=[120] from by decide +kernel];simp
end
local macro_rules | `(tactic| walk_at "0")=>Mq.fs "SK rrarA|Qc rrarA|DE.alt&UA rrrarA&zl rrarA"
local macro_rules | `(tactic| walk_at "1")=>Mq.fs "NQ rrararrD|KL jrrrrDA|SY arVhddgD"
local macro_rules | `(tactic| walk_at "Z")=>Mq.fs "B5 rVddrrrrrrA"
section
variable{P:kH}{w:pe}{K:ft}{mg:e6->Option cA}{base:ph}
theorem RV{f:DF}{Z Z1:DS}{ds:List Dat}(h:f Z=al (.U ds,Z1)):alt (jI f) (jY f) Z=al (ds,Z1):=by apply gB;delta jI;rw[h];rfl
def vi(x y:Ob):Int:=qK x.r y.r-imax x.l y.l
def oJ(x y:Ob):Int:=qK x.t y.t-imax x.b y.b
def Rj (h:a≠[]):iC a∈a:=by have h0:=ql.2 h;obtain⟨h1,_⟩:=argBest_gt (λi=>(a[i]?).getD 0)<|a.length-1;delta iC;rw[cn (by omega)];exact W1 _
def yi (h:a∈b):a<=iC b:=by obtain⟨h1,c⟩:=argBest_gt (λi=>(b[i]?).getD 0)<|b.length-1;obtain⟨j,d,e⟩:=wy h;have:=c j (by lia);simp only[cn d,e] at this;exact this
def ne_int(i j):dR true (.int i) (.int j)=al (.D<|.bl<|!bd (i=j)):=by rw[qj lZ lZ,mZ]
def eq_int(i j):dR false (.int i) (.int j)=al (.D<|.bl<|bd<|i=j):=by rw[v_eq lZ lZ,mZ]
def tY (xs:List a)(k:Nat):cutD xs (al (k:Int)) am=xs.drop k:=by simp[cutD,Ht,Du,X7]
def qL (xs:List a)(k:Nat):cutD xs am (al (k:Int))=xs.take k:=by simp[cutD,Ht,Du]
def tQ (h:f Z=al (d,Z1))(a:g Z1=al (.int i,Z2))(b:gZ d (al i) am=al r):kW f (mh g) qF Z=al (r,Z2):=by delta kW;rw[h];simp;delta mh;rw[a];show (gZ d (al i) am).map _=_;rw[b];rfl
def oK (h:f Z=al (d,Z1))(h1:g Z1=al (.int i,Z2))(h2:gZ d am (al i)=al r):kW f qF (mh g) Z=al (r,Z2):=by simp_all [kW,qF,mh]
structure OJ (rs:Fl):Prop where
 tx:∀x∈rs,bf x.1
 nu:∀x∈rs,(-(2 ^ 95)<x.2.l/\x.2.l<2 ^ 95)/\(-(2 ^ 95)<x.2.b/\x.2.b<2 ^ 95)/\(-(2 ^ 95)<x.2.r/\x.2.r<2 ^ 95)/\(-(2 ^ 95)<x.2.t/\x.2.t<2 ^ 95)
 bO:rs.length<=50
def cD(rs:Fl):Int:=iC (rs.map λx=>x.2.r)
def cC(rs:Fl):Int:=iC (rs.map λx=>x.2.t)
def yD(rs:Fl):Int:=(rs.map λx=>x.2.fV).sum
noncomputable def aA(k:Nat):Str:=if k=0 then "north" else if k=1 then "east" else if k=2 then "south" else "west"
def nP(x y:Ob):Option Nat:=if 0<vi x y/\oJ x y=0 then (if y.b=x.t then al 0 else al 2) else if vi x y=0/\0<oJ x y then (if y.l=x.r then al 1 else al 3) else am
def dj(k:Nat)(y:Ob):Int:=if k=0 then y.l else if k=1 then -y.b else if k=2 then -y.l else y.b
def mY(a:List e6):List Str:=match a.findIdx? (λx=>bd<|x=OY a) with
 | some i=>a.drop i++a.take i
 | none=>a
theorem PD{a:List e6}(b:∀x∈a,bf x){m:e6}(hm:bf m):pN (.str m) (a.map .str)=a.findIdx? (λx=>bd<|x=m):=by
 delta pN;induction a with
 | nil=>rfl
 | cons x a c=>show ((toPy<|.str x)::cZ (a.map .str)).findIdx? _=_;have ex:Xq (toPy<|.str x) (toPy<|.str m)=bd (x=m):=mH x m;rw[abt,abt,ex,c λy d=>b y<|eR _ d]
def wg{a:List e6}(b:∀x∈a,bf x):bJ (.L<|a.map .str)=bi:=mR (by show (a.map Dat.str).all g8=bi;rw[mA];intro d hd;obtain⟨x,hx,rfl⟩:=bg.1 hd;exact (b x hx).ok)
def CI (h:f Z=al (.L ds,Z1))(h1:fa Z1=al ([d],Z2))(c1:bJ (.L ds)=bi)(c2:bJ d=bi)(e:pN d ds=al j):qM f fa Z=al (.int (j:Int),Z2):=by unfold qM;simp_all
noncomputable def pairD(x:e6×List e6):Dat:=.U [.str x.1,.L<|x.2.map .str]
def la(rs:Fl):Fl:=[("north",⟨0,cC rs,cD rs,cC rs+1⟩),("east",⟨cD rs,0,cD rs+1,cC rs⟩),("south",⟨0,-1,cD rs,0⟩),("west",⟨-1,0,0,cC rs⟩)]
def Fr(s:Slot):Prop:=s=.no\/∃d,s=.D d
def jG(x:Ob)(rs:Fl)(k:Nat):List (Int×e6):=(rs.filter λy=>bd<|nP x y.2=al k).map λy=>(dj k y.2,y.1)
noncomputable def dw(l:List (Int×e6)):List (Int×e6):=l.mergeSort λa b=>bd<|a.1<=b.1
noncomputable def fG(p:Int×e6):Dat:=.U [.int p.1,.str p.2]
theorem K0(l:List (Int×e6)):firstsI (l.map fG)=al (l.map (·.1)):=by
 induction l with
 | nil=>rfl
 | cons x l a=>rw[iW,firstsI,a];rfl
def Tu (c:(l.map (·.1)).Nodup)(d:l.length<64):qO [.L (l.map fG)]=al (.O<|.L<|(dw l).map fG):=by show (firstsI _).bind _=_;rw[K0];show (if _/\_ then _ else am)=_;rw[if_pos ⟨c,by rw[bt];exact d⟩];delta dw wO;rw[<-XZ (r:=λa b:Int×e6=>bd<|a.1<=b.1) (λa _ b _=>rfl)]
def Af(l):(dw l).length=l.length:=(gn _ _).length_eq
def rh(rs:Fl):List (Int×Int):=dQ (rs.map (·.2))
def kF (h0:Z[i]?=al (.D<|.d9 a))(h:g Z=al (.str k,Z1))(h':dN a k=al d):pS i g Z=al (d,Z1):=by simp_all [pS]
def dY(a:Nat)(x y:Ob):Bool:=if a=1 then bd (x.l<y.r)&&bd (y.l<x.r) else bd (x.b<y.t)&&bd (y.b<x.t)
def cP(k:Nat)(x y:Ob):Bool:=if k=0 then bd (y.b=x.t)&&dY 1 x y else if k=1 then bd (y.l=x.r)&&dY 2 x y else if k=2 then bd (y.t=x.b)&&dY 1 x y else bd (y.r=x.l)&&dY 2 x y
def gY(rs:Fl)(x:Ob)(k:Nat):List (Int×e6):=(rs.filter λy=>cP k x y.2).map λy=>(dj k y.2,y.1)
def jF(rs:Fl)(x:Ob)(k:Nat):List Str:=if gY rs x k=[] then [aA k] else (dw<|gY rs x k).map (·.2)
theorem Gi{c:BF}{s s':SF}{Z Z1:DS}{Q:Out->Prop}{b:Bool}(h:c Z=al (b,Z1))(a:b=bi)(t:WS s Z1 Q):WS (jl c s s') Z Q:=fJ h (fun _=>t)<|fun z=>absurd (a.symm.trans z) (by decide)
theorem Qv{c:BF}{s s':SF}{Z Z1:DS}{Q:Out->Prop}{b:Bool}(h:c Z=al (b,Z1))(a:b=bn)(t:WS s' Z1 Q):WS (jl c s s') Z Q:=fJ h (fun z=>absurd (a.symm.trans z) (by decide))<|fun _=>t
def gz(rs:Fl)(x:Ob)(n:Nat):List Str:=(hB n).flatMap λk=>jF rs x k
def uR(rs)(x)(n):gz rs x (n+1)=gz rs x n++jF rs x n:=by simp[gz,Yr]
def vS(rs:Fl)(x:Ob):Prop:=∀k,k<4->((gY rs x k).map (·.1)).Nodup
theorem Nv(l:Fl):firstsD (l.map aJ)=al (l.map (·.1)):=by
 induction l with
 | nil=>rfl
 | cons x l a=>rw[iW,firstsD,a];rfl
def sE(rs:Fl):Fl:=rs.mergeSort λa b=>eO (aJ a)<|aJ b
def ME(rs)(f)(h:∀a∈rs,∀b∈rs,eO (f a) (f b)=eO (aJ a) (aJ b)):sy (rs.map f)=(sE rs).map f:=by delta sy sE;rw[<-XZ (λa c b d=>(h a c b d).symm)]
def oD(rs:Fl):Bool:=bd (∃p∈rh rs,3<(rh rs).count p)
end
theorem Ej:∀(l d:List Key),d.Nodup->((l.foldl ie d).length=d.length+l.length ↔ l.Nodup/\∀x∈l,x∉d)
 | [],d,_=>⋯
 | v::l,d,h=>by
  have le:∀(l d:List Key),(l.foldl ie d).length<=d.length+l.length:=by
   intro l;induction l with
   | nil=>intro d;simp
   | cons a l f=>intro d;simp;have:=f<|ie d a;have e:=B7 d a;split at e<;>lia
  simp only[aak,gi];by_cases g:v∈d
  ·have e:ie d v=d:=if_pos (n4.2 ⟨v,g,by simp⟩);constructor
   ·intro z;have:=le l d;lia
   rintro⟨_,z⟩;cases z v (fk ..) g
  have e:ie d v=d++[v]:=if_neg (by simp_all);have h':(d++[v]).Nodup:=by rw[lp];refine⟨h,⋯,?_⟩;grind
  have f:=Ej l (d++[v]) h';simp only[eW,Hz] at f;rw[e,show d.length+(l.length+1)=d.length+1+l.length from by lia,f,lq];constructor
  ·rintro⟨a,b⟩;refine⟨⟨λz=>b v z ⋯,a⟩,?_⟩;simp_all
  rintro⟨⟨a,b⟩,c⟩;refine⟨b,λx hx z=>?_⟩;simp_all
def Fu(ys):mw ys=ys.length ↔ ys.Nodup:=by
 dsimp only[mw,dG];have e:(hB ys.length).map (λi=>(uy ((ys[i]?).getD XC):Key))=ys.map uy:=by
  apply abU
  ·simp
  intro i h1 b;have:i<ys.length:=by simpa using b
  simp[this]
 rw[e];have:=Ej (ys.map uy) [] Dl;simp only[bt,XA,I9] at this;rw[this];constructor
 ·rintro⟨a,_⟩;exact (hI.1 a).imp λh z=>h (by rw[z])
 intro a;exact⟨hI.2 (a.imp λh z=>h<|Sum.inr.inj z),λx _ z=>by cases z⟩
structure bH (rs:Fl):Prop where
 ne:rs≠[]
 bO:rs.length<=8
 nm:∀x∈rs,dD x.1=bi
 row:∀x∈rs,0<=x.2.l/\x.2.l<x.2.r/\0<=x.2.b/\x.2.b<x.2.t
 nd:(rs.map (·.1)).Nodup
 ap:rs.Pairwise fun x y=>Apart x.2 y.2
 ar:yD rs=cD rs*cC rs
theorem F9{a b c d:Int}(h1:a<b)(h2:c<d):(0<qK b d-imax a c ↔ a<d/\c<b)/\(qK b d-imax a c=0 ↔ c=b\/d=a)/\(c=b->d≠a):=by unfold qK imax;refine⟨?_,?_,?_⟩<;>omega
theorem HM{p h w q c d:Prop}[Decidable p][Decidable h][Decidable w][Decidable q][Decidable c][Decidable d]{k:Nat}(n:p->¬w):(if p/\h then (if c then al 0 else al 2) else if w/\q then (if d then al 1 else al 3) else am)=al k ↔ (p/\h/\if c then 0=k else 2=k)\/(w/\q/\if d then 1=k else 3=k):=by
 by_cases A:p/\h
 ·rw[if_pos A];split<;>simp[A,n A.1]
 rw[if_neg A];by_cases B:w/\q
 ·rw[if_pos B];split<;>simp[B,show ¬p from fun a=>n a B.1]
 rw[if_neg B];exact⟨nofun,fun h=>h.elim (fun h=>absurd ⟨h.1,h.2.1⟩ A) fun h=>absurd ⟨h.1,h.2.1⟩ B⟩
theorem AV{x y:Ob}(hx:x.ok)(c:y.ok){k:Nat}(d:k<4):(nP x y=al k) ↔ cP k x y=bi:=by
 obtain⟨e,f,n1⟩:(0<vi x y ↔ x.l<y.r/\y.l<x.r)/\(vi x y=0 ↔ y.l=x.r\/y.r=x.l)/\(y.l=x.r->y.r≠x.l):=F9 hx.1 c.1;obtain⟨g,h,n2⟩:(0<oJ x y ↔ x.b<y.t/\y.b<x.t)/\(oJ x y=0 ↔ y.b=x.t\/y.t=x.b)/\(y.b=x.t->y.t≠x.b):=F9 hx.2 c.2;have d:k=0\/k=1\/k=2\/k=3:=by lia
 unfold nP cP dY;rw[HM (fun a b=>by rw[b] at a;cases a),e,g,f,h];clear e g f h hx c;rcases d with rfl|rfl|rfl|rfl<;>by_cases y.b=x.t<;>by_cases y.l=x.r<;>simp_all [and_comm]
def bH.mL (F:bH rs)(hx:x∈rs):x.2.r<=cD rs/\x.2.t<=cC rs:=⟨yi<|bg.2 ⟨x,hx,ρ⟩,yi<|bg.2 ⟨x,hx,ρ⟩⟩
def bH.ok (F:bH rs)(hx:x∈rs):x.2.ok:=⟨(F.row x hx).2.1,(F.row x hx).2.2.2⟩
def bH.hit (F:bH rs)(d:0<=p)(h2:p<cD rs)(f:0<=q)(h4:q<cC rs):∃y∈rs,y.2.l<=p/\p<y.2.r/\y.2.b<=q/\q<y.2.t:=by
 obtain⟨o,c,e⟩:=filled (W:=(cD rs).toNat) (H:=(cC rs).toNat) (λo c=>by
  obtain⟨x,hx,rfl⟩:=bg.1 c;have a:=F.row x hx;have b:=F.mL hx;exact⟨a.1,a.2.1,by omega,a.2.2.1,a.2.2.2,by omega⟩) (hI.2 F.ap) (by
  rw[gk];have:=F.ar;unfold yD at this;rw[show (Ob.fV ∘ λx:e6×Ob=>x.2)=λx=>x.2.fV from ρ,this,Xl (by lia),Xl (by lia)]) d (by lia) f (by lia)
 obtain⟨x,hx,rfl⟩:=bg.1 c;exact⟨x,hx,e⟩
theorem ko{b:Type}{R:b->b->Prop}{l:List b}(h:l.Pairwise R){x y:b}(hx:x∈l)(a:y∈l):x=y\/R x y\/R y x:=by
 induction h with
 | nil=>cases hx
 | cons d _ e =>
  rcases eS.1 hx with rfl|c
  ·rcases eS.1 a with rfl|a
   ·exact ι ρ
   exact τ<|ι<|d y a
  rcases eS.1 a with rfl|a
  ·exact τ<|τ<|d x c
  exact e c a
def jJ(rs:Fl)(x:Ob)(k:Nat):Prop:=if k=0 then x.t=cC rs else if k=1 then x.r=cD rs else if k=2 then x.b=0 else x.l=0
instance (rs:Fl) (x:Ob) (k:Nat):Decidable (jJ rs x k):=by unfold jJ;infer_instance
theorem bH.inner{rs:Fl}(F:bH rs){x:e6×Ob}(hx:x∈rs){k:Nat}(f:k<4)(h:¬jJ rs x.2 k):gY rs x.2 k≠[]:=by
 have a:=F.row x hx;have b:=F.mL hx;have key:∃y∈rs,cP k x.2 y.2=bi:=by
  have f:k=0\/k=1\/k=2\/k=3:=by lia
  rcases f with rfl|rfl|rfl|rfl
  ·have h:¬x.2.t=cC rs:=h;obtain⟨y,d,e⟩:=F.hit (p:=x.2.l) (q:=x.2.t) (by omega) (by omega) (by omega) (by lia);refine⟨y,d,?_⟩;have c:y.2.b=x.2.t:=by
    rcases ko F.ap hx d with rfl|z|z
    ·omega
    grind [Apart];grind [Apart]
   show (bd (y.2.b=x.2.t)&&(bd (x.2.l<y.2.r)&&bd (y.2.l<x.2.r)))=bi;lia
  ·have h:¬x.2.r=cD rs:=h;obtain⟨y,d,e⟩:=F.hit (p:=x.2.r) (q:=x.2.b) (by omega) (by lia) (by omega) (by omega);refine⟨y,d,?_⟩;have c:y.2.l=x.2.r:=by
    rcases ko F.ap hx d with rfl|z|z
    ·omega
    grind [Apart];grind [Apart]
   show (bd (y.2.l=x.2.r)&&(bd (x.2.b<y.2.t)&&bd (y.2.b<x.2.t)))=bi;lia
  ·have h:¬x.2.b=0:=h;obtain⟨y,d,e⟩:=F.hit (p:=x.2.l) (q:=x.2.b-1) (by omega) (by omega) (by lia) (by omega);refine⟨y,d,?_⟩;have c:y.2.t=x.2.b:=by
    rcases ko F.ap hx d with rfl|z|z
    ·omega
    grind [Apart];grind [Apart]
   show (bd (y.2.t=x.2.b)&&(bd (x.2.l<y.2.r)&&bd (y.2.l<x.2.r)))=bi;lia
  have h:¬x.2.l=0:=h;obtain⟨y,d,e⟩:=F.hit (p:=x.2.l-1) (q:=x.2.b) (by lia) (by omega) (by omega) (by omega);refine⟨y,d,?_⟩;have c:y.2.r=x.2.l:=by
   rcases ko F.ap hx d with rfl|z|z
   ·omega
   grind [Apart];grind [Apart]
  show (bd (y.2.r=x.2.l)&&(bd (x.2.b<y.2.t)&&bd (y.2.b<x.2.t)))=bi;lia
 simp_all [gY]
def bH.outer (F:bH rs)(hx:x∈rs)(c:k<4)(h:jJ rs x.2 k):gY rs x.2 k=[]:=by
 unfold gY;rw[Zu,Y6];intro y d z;have a:=F.row y d;have b:=F.mL d;have c:k=0\/k=1\/k=2\/k=3:=by lia
 rcases c with rfl|rfl|rfl|rfl
 ·have h:x.2.t=cC rs:=h;have z:(bd (y.2.b=x.2.t)&&_)=bi:=z;lia
 ·have h:x.2.r=cD rs:=h;have z:(bd (y.2.l=x.2.r)&&_)=bi:=z;lia
 ·have h:x.2.b=0:=h;have z:(bd (y.2.t=x.2.b)&&_)=bi:=z;lia
 have h:x.2.l=0:=h;have z:(bd (y.2.r=x.2.l)&&_)=bi:=z;lia
def bH.nodup (F:bH rs)(x:Ob)(f:k<4):((gY rs x k).map (·.1)).Nodup:=by
 unfold gY;rw[gk];apply hI.2;have h:rs.Pairwise λy z=>cP k x y.2=bi->cP k x z.2=bi->dj k y.2≠dj k z.2:=by
  refine Yq (λ{y z} g i ap c d e=>?_) F.ap;have a:=F.row y g;have b:=F.row z i;unfold Apart at ap;have f:k=0\/k=1\/k=2\/k=3:=by lia
  rcases f with rfl|rfl|rfl|rfl
  ·have c:(bd (y.2.b=x.t)&&_)=bi:=c;have d:(bd (z.2.b=x.t)&&_)=bi:=d;have e:y.2.l=z.2.l:=e;lia
  ·have c:(bd (y.2.l=x.r)&&_)=bi:=c;have d:(bd (z.2.l=x.r)&&_)=bi:=d;have e:- y.2.b=- z.2.b:=e;lia
  ·have c:(bd (y.2.t=x.b)&&_)=bi:=c;have d:(bd (z.2.t=x.b)&&_)=bi:=d;have e:- y.2.l=- z.2.l:=e;lia
  have c:(bd (y.2.r=x.l)&&_)=bi:=c;have d:(bd (z.2.r=x.l)&&_)=bi:=d;have e:y.2.b=z.2.b:=e;lia
 grind
def bH.pos (F:bH rs):0<cD rs/\0<cC rs:=by obtain⟨x,hx⟩:=aaJ rs F.ne;have a:=F.row x hx;have b:=F.mL hx;lia
def lM(rs:Fl)(k:Nat):Ob:=if k=0 then ⟨0,cC rs,cD rs,cC rs+1⟩ else if k=1 then ⟨cD rs,0,cD rs+1,cC rs⟩ else if k=2 then ⟨0,-1,cD rs,0⟩ else ⟨-1,0,0,cC rs⟩
def Pf (F:bH rs)(hx:x∈rs)(d:k<4):jG x.2 (la rs) k=if jJ rs x.2 k then [(dj k<|lM rs k,aA k)] else []:=by
 have a:=F.row x hx;have b:=F.mL hx;have p:=F.pos;have key:∀j,j<4->(bd (nP x.2 (lM rs j)=al k)=(bd (j=k)&&bd (jJ rs x.2 k))):=by
  intro j f;rw[t8,gj,decide_eq_true_eq,decide_eq_true_eq,decide_eq_true_eq];have ok:(lM rs j).ok:=by
   have f:j=0\/j=1\/j=2\/j=3:=by lia
   rcases f with rfl|rfl|rfl|rfl
   ·exact⟨show (0:Int)<cD rs by omega,show cC rs<cC rs+1 by lia⟩
   ·exact⟨show cD rs<cD rs+1 by lia,show (0:Int)<cC rs by omega⟩
   ·exact⟨show (0:Int)<cD rs by omega,show (-1:Int)<0 by omega⟩
   exact⟨show (-1:Int)<0 by omega,show (0:Int)<cC rs by omega⟩
  rw[AV (F.ok hx) ok d];have f:j=0\/j=1\/j=2\/j=3:=by lia
  have d:k=0\/k=1\/k=2\/k=3:=by lia
  have m:x.2.l<cD rs/\0<x.2.r/\x.2.b<cC rs/\0<x.2.t:=by omega
  have n:¬0=x.2.t/\¬-1=x.2.t/\¬0=x.2.r/\¬-1=x.2.r:=by omega
  have s:¬cC rs=x.2.b/\¬cC rs+1=x.2.b/\¬cD rs=x.2.l/\¬cD rs+1=x.2.l:=by omega
  clear a b p;have no:∀{c:Prop} [Decidable c] {o:Bool}{A B:Prop},¬c->¬A->((decide c&&o)=bi ↔ A/\B):=λh g=>by simp[h,g]
  have u:∀{a b:Int}{p q A:Prop} [Decidable p] [Decidable q],p->q->A->((bd (a=b)&&(decide p&&decide q))=bi ↔ A/\b=a):=λh g i=>by simp[h,g,i,eq_comm]
  rcases f with rfl|rfl|rfl|rfl<;>rcases d with rfl|rfl|rfl|rfl<;>first|exact u m.1 m.2.1 ρ|exact u m.2.2.1 m.2.2.2 ρ|exact no n.1 nofun|exact no n.2.1 nofun|exact no n.2.2.1 nofun|exact no n.2.2.2 nofun|exact no s.1 nofun|exact no s.2.1 nofun|exact no s.2.2.1 nofun|exact no s.2.2.2 nofun
 have w:(la rs).filter (λy=>bd<|nP x.2 y.2=al k)=if jJ rs x.2 k then [(aA k,lM rs k)] else []:=by
  have e:la rs=[(aA 0,lM rs 0),(aA 1,lM rs 1),(aA 2,lM rs 2),(aA 3,lM rs 3)]:=ρ;rw[e];simp only[u4,List.filter_nil,key 0 (by decide),key 1 (by decide),key 2 (by decide),key 3 (by decide)];have d:k=0\/k=1\/k=2\/k=3:=by lia
  by_cases v:jJ rs x.2 k
  ·simp only[decide_eq_true v,if_pos v];rcases d with rfl|rfl|rfl|rfl<;>rfl
  simp_all
 unfold jG;rw[w];split<;>rfl
def O0 (F:bH rs)(hx:x∈rs)(a:k<4):jG x.2 (rs++la rs) k=if jJ rs x.2 k then [(dj k<|lM rs k,aA k)] else gY rs x.2 k:=by
 have b:jG x.2 (rs++la rs) k=jG x.2 rs k++jG x.2 (la rs) k:=by simp[jG]
 have c:jG x.2 rs k=gY rs x.2 k:=by
  unfold jG gY;congr 1;refine W' λy d=>?_
  rw[t8,decide_eq_true_eq];exact AV (F.ok hx) (F.ok d) a
 simp only[b,c,Pf F hx a];by_cases h:jJ rs x.2 k
 ·rw[if_pos h,if_pos h,F.outer hx a h];rfl
 simp_all
def Ji (F:bH rs)(hx:x∈rs)(a:k<4):(dw<|jG x.2 (rs++la rs) k).map (·.2)=jF rs x.2 k:=by
 rw[O0 F hx a];delta jF;by_cases h:jJ rs x.2 k
 ·rw[if_pos h,if_pos<|F.outer hx a h];delta dw;simp
 rw[if_neg h,if_neg<|F.inner hx a h]
def bH.some (F:bH rs)(x:Ob):vS rs x:=λ_ a=>F.nodup x a
section
variable{P:kH}{w:pe}{K:ft}{mg:e6->Option cA}{base:ph}
def rW (h:dD x=bi):bf x:=by unfold dD at h;simp only[gj,decide_eq_true_eq] at h;obtain⟨⟨⟨h0,h1⟩,b⟩,_⟩:=h;refine⟨?_,by lia⟩;rw[Zz];intro a c;have:=mA.1 b a<|aa8.2 c;unfold iu at this;lia
def GV (h:∀x∈rs,x<=W)(hw:W∈rs):iC rs=W:=by have h1:=yi hw;have h2:=h _<|Rj (λz=>by rw[z] at hw;cases hw);lia
theorem Bf{a b:e6}(c:dh a b=bi)(d:dh b a=bi):a=b:=lU<|Yh (W8.1<|jd.1 c)<|W8.1<|jd.1 d
def IJ(a):dh a a=bi:=jd.2<|XN _
def QB(l):∃A B,l=A++B/\mY l=B++A:=by
 delta mY;split
 ·rename_i i _;exact⟨l.take i,l.drop i,(W4 i l).symm,ρ⟩
 exact⟨[],l,ρ,⋯⟩
def tI(k:Nat)(a b:e6×Ob):Bool:=bd<|dj k a.2<=dj k b.2
def E3(rs)(x):gz rs x 4=jF rs x 0++jF rs x 1++jF rs x 2++jF rs x 3:=by simp only[uR,uR,uR];rfl
def bH.vv (F:bH rs)(c:y∈rs)(d:z∈rs)(e:y.1=z.1):y=z:=by
 have:rs.Pairwise λa b=>a.1≠b.1:=hI.1 F.nd;rcases ko this c d with h|h|h
 ·exact h
 simp_all;exact absurd e.symm h
def wq(k):dD (aA k)=bn:=by
 delta aA;split
 ·decide +kernel
 split
 ·decide +kernel
 split<;>decide +kernel
def QG (c:j<4)(d:k<4)(h:aA j=aA k):j=k:=by
 have key:∀a b:Fin 4,aA a.val=aA b.val->a=b:=by decide +kernel
 exact congrArg Fin.val<|key ⟨j,c⟩ ⟨k,d⟩ h
variable{rs:Fl}
def Og (h:(Z[i]?).bind ownOf=al (false,.L xs))(a:fa Z=al ([d],Z1))(b:(Z1[i]?).bind ownOf=al (false,.L xs))(hl:xs.length<dk):iS i o9 fa Z=al (.aU,Z1.set i<|.O<|.L<|xs++[d]):=by unfold iS;rw[h];show (fa Z).bind _=_;rw[a];show ((Z1[i]?).bind ownOf).bind _=_;rw[b];show (if xs.length<dk then al (Dat.aU,Dat.L<|xs++[d]) else am).map _=_;rw[if_pos hl];rfl
end
def cy(rs:Fl):Ob:=⟨0,0,cD rs,cC rs⟩
def allR(rs:Fl):Fl:=rs++la rs
def EZ(rs):la rs=[(aA 0,wall (cy rs) 0),(aA 1,wall (cy rs) 1),(aA 2,wall (cy rs) 2),(aA 3,wall (cy rs) 3)]:=ρ
def m7(rs):(allR rs).map (·.2)=rs.map (·.2)++walls (cy rs):=by delta allR;rw[gf,EZ];rfl
def wU (F:bH rs):(cy rs).ok:=⟨F.pos.1,F.pos.2⟩
def Cg (a:k<4):Up (aa k x) (aa k y) ↔ cP k x y=bi:=by
 have a:k=0\/k=1\/k=2\/k=3:=by lia
 rcases a with rfl|rfl|rfl|rfl<;>simp[Up,aa,ae,cP,dY]<;>lia
theorem BP(p):∀(rs:Fl),(rs.filter λy=>bd<|p∈dc y.2).length<=(rh rs).count p
 | []=>fj _
 | y::rs=>by
  have ih:=BP p rs;have e:rh (y::rs)=dc y.2++rh rs:=ρ;simp[e];by_cases h:p∈dc y.2
  ·rw[List.filter_cons_of_pos (by simpa using h),gi];have:=abu.2 h;lia
  rw[List.filter_cons_of_neg (by simpa using h)];lia
def bH.EM (F:bH rs)(j:oD rs=bn):aB (cy rs) (rs.map (·.2)) where
 aK:=λo l=>by obtain⟨x,hx,rfl⟩:=bg.1 l;have a:=F.row x hx;have b:=F.mL hx;exact⟨a.1,a.2.1,b.1,a.2.2.1,a.2.2.2,b.2⟩
 ap:=λa s b u=>by
  obtain⟨x,hx,rfl⟩:=bg.1 s;obtain⟨y,c,rfl⟩:=bg.1 u;rcases ko F.ap hx c with e|e|e
  ·exact ι (by rw[e])
  ·exact τ e
  exact τ e.symm
 hit:=λp q v w A B=>by obtain⟨y,c,h⟩:=F.hit v w A B;exact⟨y.2,bg.2 ⟨y,c,ρ⟩,h⟩
 four:=λx hx n C m k z D h=>by
  obtain⟨x,d,rfl⟩:=bg.1 hx;obtain⟨n,f,rfl⟩:=bg.1 C;obtain⟨m,g,rfl⟩:=bg.1 k;obtain⟨z,i,rfl⟩:=bg.1 D;have rn:=F.row n f;have rm:=F.row m g;have rz:=F.row z i;delta oD at j;rw[decide_eq_false_iff_not] at j;obtain⟨E,G,H,I,J,K⟩:=h;have key:=BP (x.2.r,x.2.t) rs;have L:[x,n,m,z].length<=(rs.filter λy=>bd<|(x.2.r,x.2.t)∈dc y.2).length:=by
   refine adx ?_ ?_
   ·have M:x≠n:=λe=>by subst e;lia
    have N:x≠m:=λe=>by subst e;omega
    have O:x≠z:=λe=>by subst e;omega
    have P:n≠m:=λe=>by subst e;omega
    have Q:n≠z:=λe=>by subst e;omega
    have R:m≠z:=λe=>by subst e;lia
    simp[M,N,O,P,Q,R]
   intro y c;rw[f',decide_eq_true_eq];simp at c;rcases c with rfl|rfl|rfl|rfl
   ·exact⟨d,by simp[dc]⟩
   ·exact⟨f,by simp[dc,E,G]⟩
   ·exact⟨g,by simp[dc,H,I]⟩
   exact⟨i,by simp[dc,J,K]⟩
  simp only[gi,XA] at L;exact j ⟨(x.2.r,x.2.t),abu.1 (by omega),by omega⟩
def bH.yQ (F:bH rs):((allR rs).map (·.2)).Nodup:=by
 rw[m7,lp];refine⟨?_,?_,?_⟩
 ·refine hI.2 (F.ap.imp_of_mem λ{x y} hx hy h e=>?_);have a:=F.row x hx;grind [Apart]
 ·have i:∀{j k:Nat},j<4->k<4->j≠k->wall (cy rs) j≠wall (cy rs) k:=λf g c e=>c (kC (wU F) f g e);have e:walls (cy rs)=[wall (cy rs) 0,wall (cy rs) 1,wall (cy rs) 2,wall (cy rs) 3]:=ρ;simp_all
 intro a m b d e;subst e;obtain⟨x,hx,rfl⟩:=bg.1 m;have r:=F.row x hx;have b:=F.mL hx;simp[walls] at d;rcases d with h|h|h|h<;>(have n:=congrArg Ob.l h;have o:=congrArg Ob.b h;have p:=congrArg Ob.r h;have q:=congrArg Ob.t h;dsimp only[wN,wE,wS,wW,cy] at n o p q;omega)
def ky:y∈allR rs ↔ y∈rs\/∃k,k<4/\y=(aA k,wall (cy rs) k):=by
 delta allR;rw[ee,EZ];apply or_congr Iff.rfl;constructor
 ·intro h;simp at h;rcases h with h|h|h|h
  ·exact⟨0,⋯,h⟩
  ·exact⟨1,⋯,h⟩
  ·exact⟨2,⋯,h⟩
  exact⟨3,⋯,h⟩
 rintro⟨k,a,rfl⟩;have a:k=0\/k=1\/k=2\/k=3:=by lia
 grind
def bH.sv (F:bH rs)(a:y∈allR rs)(b:z∈allR rs)(e:y.1=z.1):y=z:=by
 rcases ky.1 a with a|⟨j,c,rfl⟩<;>rcases ky.1 b with b|⟨k,d,rfl⟩
 ·exact F.vv a b e
 ·have:=F.nm y a;simp_all [wq]
 ·have:=F.nm z b;rw[<-e,wq] at this;contradiction
 have:=QG c d e;subst this;rfl
def lb(rs:Fl)(o:Ob):Str:=(((allR rs).find? λy=>bd<|y.2=o).map (·.1)).getD ""
theorem bH.kd (F:bH rs)(b:y∈allR rs):lb rs y.2=y.1:=by
 delta lb;cases e:(allR rs).find? λz=>bd (z.2=y.2) with
 | none=>have:=ZF.1 e y b;simp at this
 | some z =>
  have c:=YL e;have a:=aal e;have a:z.2=y.2:=by simpa using a
  have nd:=F.yQ;have:z=y:=by
   rcases ko (hI.1 nd) c b with q|q|q
   ·exact q
   simp_all;exact absurd a.symm q
  rw[this];rfl
def bH.xQ (F:bH rs)(b:y∈allR rs):y.2.ok:=by
 have hp:=F.pos;rcases ky.1 b with h|⟨j,a,rfl⟩
 ·exact F.ok h
 have a:j=0\/j=1\/j=2\/j=3:=by lia
 rcases a with rfl|rfl|rfl|rfl
 ·exact⟨show (0:Int)<cD rs by omega,show cC rs<cC rs+1 by lia⟩
 ·exact⟨show cD rs<cD rs+1 by lia,show (0:Int)<cC rs by omega⟩
 ·exact⟨show (0:Int)<cD rs by omega,show (-1:Int)<0 by omega⟩
 exact⟨show (-1:Int)<0 by omega,show (0:Int)<cC rs by omega⟩
def bH.EU (F:bH rs)(a:y∈rs)(c:k<4):Apart y.2 (wall (cy rs) k):=by
 have r:=F.row y a;have b:=F.mL a;have c:k=0\/k=1\/k=2\/k=3:=by lia
 rcases c with rfl|rfl|rfl|rfl<;>simp[Apart,wall,wN,wE,wS,wW,cy]<;>omega
def bH.Rx (F:bH rs)(c:y∈allR rs)(d:z∈allR rs):y=z\/Apart y.2 z.2:=by
 have hp:=F.pos;rcases ky.1 c with h|⟨j,a,rfl⟩<;>rcases ky.1 d with h'|⟨k,b,rfl⟩
 ·rcases ko F.ap h h' with e|e|e
  ·exact ι e
  ·exact τ e
  exact τ e.symm
 ·exact τ<|F.EU h b
 ·exact τ (F.EU h' a).symm
 have b:k=0\/k=1\/k=2\/k=3:=by lia
 have a:j=0\/j=1\/j=2\/j=3:=by lia
 rcases a with rfl|rfl|rfl|rfl<;>rcases b with rfl|rfl|rfl|rfl<;>first|exact ι ρ|(right;simp[Apart,wall,wN,wE,wS,wW,cy];done)|(right;simp[Apart,wall,wN,wE,wS,wW,cy];omega)
def bH.ue (F:bH rs)(hx:x∈rs)(d:k<4):jF rs x.2 k=(bI ((allR rs).map (·.2)) x.2 k).map (lb rs):=by
 have j:=Ji F hx d;have n:(allR rs).filter (λy=>bd<|nP x.2 y.2=Option.some k)=(allR rs).filter λy=>bd (Up (aa k x.2)<|aa k y.2):=W' λy c=>decide_eq_decide.2<|(AV (F.ok hx) (F.xQ c) d).trans (Cg d).symm;have g:∀y∈(allR rs).filter (λy=>bd<|Up (aa k x.2)<|aa k y.2),y∈allR rs/\cP k x.2 y.2=bi:=λy c=>by obtain⟨o,p⟩:=f'.1 c;exact⟨o,(Cg d).1 (of_decide_eq_true p)⟩
 change ((((allR rs).filter λy=>bd<|nP x.2 y.2=Option.some k).map λy=>(dj k y.2,y.1)).mergeSort λa b=>bd<|a.1<=b.1).map (·.2)=_ at j;rw[n] at j;rw[<-j];unfold bI;have q:((allR rs).map (·.2)).filter (λy=>bd<|Up (aa k x.2)<|aa k y)=((allR rs).filter λy=>bd<|Up (aa k x.2)<|aa k y.2).map (·.2):=ab8;rw[q];generalize hL:(allR rs).filter (λy=>bd<|Up (aa k x.2)<|aa k y.2)=L at g;have m:∀a∈allR rs,∀b∈allR rs,cP k x.2 a.2=bi->cP k x.2 b.2=bi->(dj k a.2<=dj k b.2 ↔ (aa k a.2).l<=(aa k b.2).l):=λa h b i qa qb=>by
  rcases F.Rx h i with e|e;simp_all;have o1:=F.xQ h;have o2:=F.xQ i;unfold Apart at e;unfold Ob.ok at o1 o2;have d:k=0\/k=1\/k=2\/k=3:=by lia
  rcases d with rfl|rfl|rfl|rfl<;>simp[dj,cP,dY,aa,ae] at *<;>omega
 have t:(L.map λy=>(dj k y.2,y.1)).mergeSort (λa b=>bd<|a.1<=b.1)=(L.mergeSort<|tI k).map λy=>(dj k y.2,y.1):=(XZ (r:=tI k) (s:=λa b:Int×e6=>bd<|a.1<=b.1) (f:=λy:e6×Ob=>(dj k y.2,y.1)) λa _ b _=>rfl).symm
 have u:(L.map (·.2)).mergeSort (λa b=>bd<|(aa k a).l<=(aa k b).l)=(L.mergeSort<|tI k).map (·.2):=(XZ λa h b i=>by unfold tI;exact decide_eq_decide.2<|m a (g a h).1 b (g b i).1 (g a h).2 (g b i).2).symm
 simp only[t,u,gk];refine wm λy c=>?_;exact (F.kd<|(g y<|List.mem_mergeSort.1 c).1).symm
def bH.Bk (F:bH rs)(hx:x∈rs):gz rs x.2 4=(bq (rs.map (·.2)++walls (cy rs)) x.2).map (lb rs):=by rw[E3,F.ue hx ⋯,F.ue hx ⋯,F.ue hx ⋯,F.ue hx ⋯,m7];delta bq;simp only[gf]
noncomputable def cu(web:List (e6×List e6))(n:e6):List Str:=((web.find? λp=>bd<|p.1=n).map (·.2)).getD []
noncomputable def jB(a b:e6):Bool:=!dh b a
theorem zt:Order jB where
 fw:=λa=>by unfold jB;rw[IJ];rfl
 tr:=λa b c d e=>by
  delta jB at *;simp only[sj] at *;cases h:dh c a with
  | false=>rfl
  | true=>have t:=zw b a;rw[d,acq] at t;rw[ze _ _ _ h t] at e;contradiction
 cR:=λa b h=>by
  delta jB;cases d:dh b a with
  | false=>exact ι ρ
  | true =>
   cases e:dh a b with
   | false=>exact τ ρ
   | true=>exact absurd (Bf e d) h
theorem cM (nd:(web.map (·.1)).Nodup)(a:p∈web):cu web p.1=p.2:=by
 delta cu;cases e:web.find? λz=>bd (z.1=p.1) with
 | none=>have:=ZF.1 e p a;simp at this
 | some z =>
  have b:=YL e;have c:z.1=p.1:=by simpa using aal e
  have:z=p:=by
   rcases ko (hI.1 nd) b a with q|q|q
   ·exact q
   simp_all;exact absurd c.symm q
  rw[this];rfl
def BO(l):gd l (mY l):=by obtain⟨A,B,a,b⟩:=QB l;exact⟨A,B,a,b⟩
def cv(web:List (e6×List e6)):Prop:=jK (web.map (·.1)) aA (cu web) jB
def bH.zC (F:bH rs)(m:oD rs=bn)(f:web.Perm (rs.map λy=>(y.1,mY<|gz rs y.2 4))):cv web:=by
 have T:=F.EM m;have nd:=F.yQ;rw[m7] at nd;have c:∀{x:e6×Ob},x∈rs->x∈allR rs:=λh=>ky.2<|ι h;have o:(rs.map (·.2)).map (lb rs)=rs.map (·.1):=by rw[gk];exact wm λx hx=>F.kd<|c hx
 have q:(λk=>lb rs<|wall (cy rs) k)=aA:=by
  funext k;by_cases r:k<4
  ·exact F.kd<|ky.2<|τ ⟨k,r,ρ⟩
  have s:wall (cy rs) k=wall (cy rs) 3:=by rw[wall,if_neg (by omega),if_neg (by omega),if_neg (by omega)];rfl
  have t:aA k=aA 3:=by delta aA;rw[if_neg (by omega),if_neg (by omega),if_neg (by omega)];rfl
  simp only[s,t];exact F.kd<|ky.2<|τ ⟨3,⋯,ρ⟩
 have g:∀{a:Ob},a∈rs.map (·.2)++walls (cy rs)->∃y∈allR rs,y.2=a:=λ{a} h=>by rw[<-m7] at h;exact bg.1 h
 have i:=T.zC (ν:=lb rs) (wU F) nd (λa d b u e=>by
  obtain⟨y,j,rfl⟩:=g d;obtain⟨z,l,rfl⟩:=g u;simp only[F.kd j,F.kd l] at e;rw[F.sv j l e]) (λa d=>by
  obtain⟨x,hx,rfl⟩:=bg.1 d;simp only[F.kd (c hx),<-F.Bk hx];exact cM (p:=(x.1,gz rs x.2 4)) (by rw[gk];exact F.nd)<|bg.2 ⟨x,hx,ρ⟩) zt
 rw[o,q] at i;have pn:(web.map (·.1)).Perm (rs.map (·.1)):=by have:=f.map (·.1);rwa[gk] at this
 refine i.turn pn λn v=>?_;obtain⟨x,hx,rfl⟩:=bg.1 v;simp only[cM (web:=rs.map λy=>(y.1,gz rs y.2 4)) (p:=(x.1,gz rs x.2 4)) (by rw[gk];exact F.nd) (bg.2 ⟨x,hx,ρ⟩),cM (p:=(x.1,mY<|gz rs x.2 4)) (pn.nodup_iff.2 F.nd)<|f.mem_iff.2<|bg.2 ⟨x,hx,ρ⟩];exact BO _
local macro_rules | `(tactic| walk_at "U")=>Mq.fs "Lz A|ON rarA"
local macro_rules | `(tactic| walk_at "1")=>Mq.fs "J6 ardrrrrA"
local macro_rules | `(tactic| walk_at "0")=>Mq.fs "LJ hrVddrU|LA rrarA|Kd rarA|zu rrrarA|Pc rarA|OL DD"
local macro_rules | `(tactic| walk_at "T")=>Mq.fs "OD hrVddrU|SE hrVddrU|MW DD"
local macro_rules | `(tactic| walk_at "I")=>Mq.fs "Qg rarrA|Uk arVdd|IQ arVdd|Tg a0"
local macro_rules | `(tactic| walk_at "Z")=>Mq.fs "TC aNrLFrE|NF aNrLFr|Ir rVhddrDU|RP wTS|O6"
section
variable{P:kH}{w:pe}{K:ft}{mg:e6->Option cA}{base:ph}
noncomputable abbrev GY:List Str:=["north","east","south","west"]
noncomputable abbrev mB:Dat:=.U [.str "north",.str "east",.str "south",.str "west"]
def ui(fn:a8):Prop:=∀k,k<4->fn [.str (aA k)]=al (.D<|.str<|aA<|(k+1)%4)
def N1(T:Txt mg)(w1:fQ K mg "WALLS" mB)(w2:yX K mg "WALLS" GY)(F:bz K "follower" "follower" Az f a):∃fn,br P w K mg base bj 1 f a ["wall"] (aI K fn)/\ui fn:=by
 refine' cI F CY ρ ?C ?B
 case C=>walk_at "h"
 intro k hk;have:k=0\/k=1\/k=2\/k=3:=by lia
 rcases this with rfl|rfl|rfl|rfl<;>rfl
def L'(a:List e6)(k:Nat):gZ (.L<|a.map .str) (al (k:Int)) am=al (.O<|.L<|(a.drop k).map .str):=by show al (Res.O<|.L<|cutD (a.map Dat.str) (al (k:Int)) am)=_;rw[tY,Ym]
def B6(a:List e6)(k:Nat):gZ (.L<|a.map .str) am (al (k:Int))=al (.O<|.L<|(a.take k).map .str):=by show al (Res.O<|.L<|cutD (a.map Dat.str) am<|al (k:Int))=_;rw[qL,Yl]
def fI (h:c Z=al (b,Z1))(hb:b=bn)(n:WS g Z1 Q):WS (iq (jl c s kM) g) Z Q :=
 aj (fJ h (by simp_all) λ_=>aZ<|aq n)
def Eg(fn:a8):Prop:=∀p:e6×List e6,dD p.1=bi->bf p.1->fn [pairD p]=al (.D<|.bl true)
def MZ(T:Txt mg)(g:aY P w K mg base "is_name" 1 (aI K c))(i:Fz c)(F:bz K "is_pair" "is_pair" ym f d):∃fn,br P w K mg base bj 2 f d ["thing"] (aI K fn)/\Eg fn:=by
 refine' cI F G1 ρ ?C ?B
 case C=>walk_at "h"
 intro p h j;have e:=i p.1 j;rw[h] at e;refine' dz ρ ?w;refine' fI ?a ρ ?b
 case a=>walk_at "v"
 exact aj<|cc (v_res<|uV (ai (aO ρ e) ρ) (by rfl)) ⟨_,ρ⟩
def Q7(room:e6)(ring names:List e6):Prop:=3<=ring.length/\ring.length<100/\(∀n∈ring,n∈names/\n≠room)/\ring.Nodup/\bf room/\(∀n∈ring,bf n)/\∀n∈names,bf n
def B8(fn:a8):Prop:=∀(room:e6) (ring names:List e6),Q7 room ring names->fn [.str room,.L<|ring.map .str,.L<|names.map .str]=al (.D<|.bl true)
def jC{a:List e6}(b:∀x∈a,bf x){m:e6}(c:bf m)(neg:Bool):dU neg (.str m) (.L<|a.map .str)=al (.D<|.bl (if neg then !bd (m∈a) else bd (m∈a))):=by
 rw[Bq c.ok (λy d=>(b y d).ok)];have:(a.any λy=>bd<|y=m)=bd (m∈a):=by rw[t8];simp
 rw[this]
def GK (hx:bf x)(a:bf y):dR true (.str x) (.str y)=al (.D<|.bl<|!bd (x=y)):=by rw[qj (kL hx.ok) (kL a.ok),mH]
def qd{a:Type}{enc:a->Dat}{caps:List (Option Nat)}{fi:IF}{g:GF}{fe:DF}{xs:List a}{Z Z1 Z2:DS}(put:a->DS)(b:fi Z=al (xs.map enc,Z1))(c:aV am caps Z1=Z2)(d:xs.length<=dk)
 (e:∀x∈xs,∀Z,(Z=b8 caps Z2\/∃y,Z=put y)->g (enc x) Z=al (put x))(f:∀x∈xs,fe (put x)=al (.bl true,put x))(h:∀x∈xs,noOwn (put x)=bi) :
  cb pV (fO (ij<|dJ caps am fi g (λZ=>al (true,Z)) fe) lJ) Z=al (.D<|.bl true,Z2):=by
 apply aO<|af (ai (gS put (λ_=>.bl true) b c d e f h) ρ) ao;have:=Jj (λ_:a=>true) xs;rw[show xs.all (λ_=>true)=bi from by simp] at this;exact this
theorem Ii(T:Txt mg)(w3:fQ K mg "FEWEST_NEIGHBOURS" (.int 3))(hs:mg "set"=am){f:dn}{d:kq}(F:bz K "is_ring" "is_ring" zP f d):∃fn,br P w K mg base bj 1 f d ["room","ring","names"] (aI K fn)/\B8 fn:=by
 refine' cI F Bi ρ ?C ?B
 case C=>have nd:=Bi.nd;walk_at "h"
 rintro room ring names ⟨h1,h2,e,j,k,g,l⟩;refine' dz ρ ?w;have sz:ring.length<=sizeLine:=by unfold dk;lia
 refine' fI ?a ?D ?L
 case a=>walk_at "v"
 case D=>simp;omega
 refine' fI (mG<|fq (ai (qd (fun n=>[.no,.D<|.str n,.D<|.L<|names.map .str,.D<|.str room]) (da ρ) ρ sz ?G ?I ?J) ρ) ρ) ρ ?b
 case G=>intro y hy Z hd;rcases hd with rfl|⟨z,rfl⟩<;>rfl
 case I=>intro n c;have h:=jC l (g n c) false;have i:=GK (g n c) k;rw[decide_eq_true (e n c).1] at h;rw[decide_eq_false (e n c).2] at i;exact uV (ai (au ρ ρ h) ρ)<|ai (au ρ ρ i) ρ
 case J=>intro n c;rfl
 refine aj<|cc (au (DM (fun x=>x) ρ (by omega)) (fH ρ ρ) B9)<|km ?_;rw[ZS,(Fu ring).2 j,bt];exact decide_eq_true ρ
def bu:List Str:=[aA 0,aA 1,aA 2,aA 3]
structure ba (web:List (e6×List e6)):Prop where
 bO:1<=web.length/\web.length<=8
 nm:∀p∈web,dD p.1=bi
 nd:(web.map (·.1)).Nodup
 rg:∀p∈web,3<=p.2.length/\p.2.Nodup/\∀n∈p.2,(n∈web.map (·.1)\/n∈bu)/\n≠p.1
def GB(fn:a8):Prop:=∀web:List (e6×List e6),ba web->fn [.L (web.map pairD)]=al (.D<|.bl true)
theorem lV:∀n∈bu,bf n:=by intro n a;simp[bu] at a;rcases a with rfl|rfl|rfl|rfl<;>exact⟨by decide +kernel,by decide +kernel⟩
theorem ba.txt{web:List (e6×List e6)}(h:ba web){n:e6}(a:n∈web.map (·.1)\/n∈bu):bf n:=by
 rcases a with a|a
 ·obtain⟨p,b,rfl⟩:=bg.1 a;exact rW<|h.nm p b
 exact lV n a
theorem zF{b:Type}[DecidableEq b]:∀{l m:List b},l.Nodup->(∀x∈l,x∈m)->l.length<=m.length
 | [],_,_,_=>pd _
 | a::l,m,c,h=>by have d:=zF (l:=l) (m:=m.erase a) (lq.1 c).2 fun x hx=>(List.mem_erase_of_ne fun z=>by simp_all).2 (h x<|eR _ hx);rw[List.length_erase_of_mem (h a fk)] at d;have:=List.length_pos_of_mem<|h a fk;simp;lia
theorem ba.len{web:List (e6×List e6)}(h:ba web){p:e6×List e6}(b:p∈web):p.2.length<=12:=by
 have a:=(h.rg p b);have:p.2.length<=(web.map (·.1)++bu).length:=by exact zF a.2.1 fun n c=>ee.2 (a.2.2 n c).1
 rw[eW,bt] at this;have:=h.bO;have:bu.length=4:=ρ;lia
theorem NX(T:Txt mg)(w1:fQ K mg "WALLS" mB)(w3:fQ K mg "MOST_ROOMS" (.int 8))(hs:mg "set"=am){e g:a8}(k:aY P w K mg base "is_pair" 2 (aI K e))(l:Eg e)(m:aY P w K mg base "is_ring" 1 (aI K g))(o:B8 g){f:dn}{i:kq}(F:bz K "has_form" "has_form" yG f i):∃fn,br P w K mg base bj 3 f i ["web"] (aI K fn)/\GB fn:=by
 refine' cI F Gr ρ ?C ?B
 case C=>have nd:=Gr.nd;walk_at "h"
 intro web h;refine' dz ρ ?w;have hl:=h.bO;have sz:web.length<=sizeLine:=by unfold dk;lia
 refine' fI ?a ?a2 ?a3
 case a=>walk_at "v"
 grind;refine' fI (mG<|fq (ai (qd (enc:=pairD) (xs:=web) (fun p=>[.no,.D<|pairD p]) (da ρ) ρ sz ?D ?G ?I) ρ) ρ) ρ ?b
 case D=>intro y j Z hd;rcases hd with rfl|⟨z,rfl⟩<;>rfl
 case G=>intro p c;have:=l p (h.nm p c)<|rW<|h.nm p c;walk_at "v"
 case I=>intro n d;rfl
 show WS _ [.D (.L<|web.map pairD),.no,.no] _;refine' aj (aH (Z2:=[.D (.L<|web.map pairD),.O (.L ((web.map (·.1)).map .str)),.no]) (gS (enc:=pairD) (xs:=web) (fun p=>[.no,.D<|.str p.1,.D<|.L<|p.2.map .str]) (fun p=>.str p.1) (da ρ) ρ sz ?J ?L ?M) ?N<|aq ?O)
 case J=>intro y j Z hd;rcases hd with rfl|⟨z,rfl⟩<;>rfl
 case L=>intro p c;rfl
 case M=>intro p c;rfl
 case N=>rw[gk];rfl
 refine' fI (bM (au (DM (cs:=web.map (·.1)) (fun x=>x) ρ ?d1) (fH ρ ρ)<|ne_int _ _)) ?Q ?R;grind
 case Q=>simp only[ZS,(Fu _).2 h.nd,bt];simp
 refine' aj (aH (Z2:=[.D (.L<|web.map pairD),.D (.L ((web.map (·.1)).map .str)),.O (.L ((web.map (·.1)++bu).map .str))]) (au ρ (ai (aO (af ρ ao) ρ) ρ)<|pL ?S) ?U<|aq ?V)
 case S=>simp[dk];lia
 case U=>rw[gf];rfl
 refine' aj (cc (qd (enc:=pairD) (xs:=web) (fun p=>[.no,.D<|.str p.1,.D<|.L<|p.2.map .str,.D (.L ((web.map (·.1)++bu).map .str))]) (da ρ) ρ sz ?W ?X ?Y) ⟨_,ρ⟩)
 case W=>intro y j Z hd;rcases hd with rfl|⟨z,rfl⟩<;>rfl
 case Y=>intro p c;rfl
 intro p c;have r:=h.rg p c;have:=o p.1 p.2 (web.map (·.1)++bu) ⟨r.1,by have:=h.len c;lia,fun n d=>⟨ee.2 (r.2.2 n d).1,(r.2.2 n d).2⟩,r.2.1,rW<|h.nm p c,fun n d=>h.txt (r.2.2 n d).1,fun n d=>h.txt<|ee.1 d⟩;walk_at "v"
abbrev ay:=List<|e6×List e6
noncomputable def cK(web:ay):List (e6×Dat):=web.map fun p=>(p.1,.L<|p.2.map .str)
def aG(web:ay):Dat:=.d9<|cK web
theorem M8{c:Type}{l:List (e6×c)}(nd:(l.map (·.1)).Nodup){p q:e6×c}(f:p∈l)(g:q∈l)(e:p.1=q.1):p=q:=by obtain⟨i,d⟩:=XF.1 f;obtain⟨j,b⟩:=XF.1 g;cases jf nd (a:=p.1) (by rw[c6,d];rfl) (by rw[c6,b,e];rfl);rw[d] at b;exact Option.some.inj b
theorem lD{web:ay}(nd:(web.map (·.1)).Nodup){p:e6×List e6}(a:p∈web):dN (cK web) p.1=al (.L<|p.2.map .str):=by
 have e:(web.find? fun q=>bd<|q.1=p.1)=al p:=by
  cases e:web.find? fun q=>bd (q.1=p.1) with
  | none=>exact absurd (ZF.1 e p a) (by simp)
  | some q=>have b:=YL e;have c:=aal e;rw[M8 nd b a (by simpa using c)]
 delta dN cK;rw[List.find?_map];show ((web.find? fun q=>bd<|q.1=p.1).map _).map _=_;rw[e];rfl
theorem Kn(web:ay)(n:e6):(dN (cK web) n).isSome=bd (n∈web.map (·.1)):=by delta dN cK;rw[t8];simp
theorem lF(web:ay)(n:e6)(neg:Bool):dU neg (.str n) (aG web)=al (.D (.bl (if neg then !bd (n∈web.map (·.1)) else bd (n∈web.map (·.1))))):=by rw[<-Kn];rfl
theorem fS{a:Type}{l:List a}{k:Nat}{x:a}(h:l[k]?=al x):l.take (k+1)=l.take k++[x]:=by rw[List.take_succ,h];rfl
def BE(fn:a8):Prop:=∀web:ay,ba web->(∀p∈web,∀q∈web,q.1∈p.2->p.1∈q.2)->fn [aG web]=al (.D<|.bl true)
theorem Mx(T:Txt mg){f:dn}{m:kq}(F:bz K "ties_are_shared" "ties_are_shared" AS f m):∃fn,br P w K mg base bj 1 f m ["rings"] (aI K fn)/\BE fn:=by
 refine' cI F HA ρ ?D ?B
 case D=>have fz:gX "rings":=⟨trivial⟩;walk_at "h"
 intro web h u;refine' dz ρ ?w;refine' aj<|fu (fun _ Z=>∃e a,Fr e/\Fr a/\Z=[.D (aG web),e,a]) ρ ⟨_,_,ι ρ,ι ρ,ρ⟩ ?st ?C
 case C=>rintro _ ⟨e,a,o,b,rfl⟩;exact aq<|aj<|cc ρ ⟨_,ρ⟩
 rintro k x hx _ ⟨e,a,o,b,rfl⟩;unfold cK at hx;rw[gk,c6] at hx;obtain⟨p,ep,rfl⟩:=gW.1 hx;have g:=eH ep;refine⟨[.D (aG web),.D<|.str p.1,a],by rcases o with rfl|⟨d,rfl⟩<;>rfl,?_⟩;refine aj<|fu (fun _ Z=>∃a,Fr a/\Z=[.D (aG web),.D<|.str p.1,a]) (da<|kF ρ ρ<|lD h.nd g) ⟨_,b,ρ⟩ ?_ ?_
 ·rintro j y r _ ⟨a,b,rfl⟩;rw[c6] at r;obtain⟨n,v,rfl⟩:=gW.1 r;have z:=eH v;refine⟨[.D (aG web),.D<|.str p.1,.D<|.str n],by rcases b with rfl|⟨d,rfl⟩<;>rfl,?_⟩;by_cases i:n∈web.map (·.1)
  ·obtain⟨q,l,rfl⟩:=bg.1 i;have c:=lF web q.1 false;rw[decide_eq_true i] at c;have t:=jC (fun x hx=>h.txt ((h.rg q l).2.2 x hx).1) (h.txt<|ι<|bg.2 ⟨p,g,ρ⟩) true;rw[decide_eq_true (u p g q l z)] at t;exact fI (v_and (bM<|au ρ ρ c)<|Cu ρ<|bM<|au ρ (kF ρ ρ<|lD h.nd l) t) ρ<|aZ ⟨_,τ ⟨_,ρ⟩,ρ⟩
  have c:=lF web n false;rw[decide_eq_false i] at c;exact fI (v_and (bM<|au ρ ρ c)<|nz ρ ρ) ρ<|aZ ⟨_,τ ⟨_,ρ⟩,ρ⟩
 rintro _ ⟨a,b,rfl⟩;exact aq<|aZ ⟨_,_,τ ⟨_,ρ⟩,b,ρ⟩
noncomputable def dX(l:List (List e6))(k:List e6):List (List e6):=if k∈l then l else l++[k]
def dv(a:List (List e6)):List (List e6):=a.foldl dX []
noncomputable def a9(l:List (List e6)):gC:=l.map (·,.bl true)
theorem Nh(l:List (List e6))(k:List e6):tK (a9 l) k (.bl true)=a9 (dX l k):=by
 have e:(fU (a9 l) k).isSome=bd (k∈l):=by dsimp only[fU,a9];rw[t8];simp
 unfold tK dX;rw[e];by_cases h:k∈l;simp_all [a9];simp_all [a9]
theorem DU(l:List (List e6))(k:List e6):dv (l++[k])=dX (dv l) k:=by simp[dv]
theorem B0(l:List (List e6)):(dv l).length<=l.length:=by
 have:∀(l a:List (List e6)),(l.foldl dX a).length<=a.length+l.length:=by
  intro l;induction l with
  | nil=>intro a;exact fj _
  | cons k l b =>
   intro a;have h:=b<|dX a k;have:(dX a k).length<=a.length+1:=by unfold dX;split<;>simp
   simp;show (l.foldl dX<|dX a k).length<=_;lia
 have:=this l [];simp at this;exact this
theorem v9(l:List (List e6)):(∀k,k∈dv l ↔ k∈l)/\(dv l).Nodup:=by
 have:∀(l b:List (List e6)),b.Nodup->(∀k,k∈l.foldl dX b ↔ k∈b\/k∈l)/\(l.foldl dX b).Nodup:=by
  intro l;induction l with
  | nil=>intro b h;exact⟨fun k=>by simp,h⟩
  | cons a l f =>
   intro b h;have g:(dX b a).Nodup:=by
    delta dX;split
    ·exact h
    rename_i ha;rw[lp];exact⟨h,by simp,fun x hx y hy e=>by simp_all⟩
   obtain⟨c,d⟩:=f _ g;refine⟨fun k=>?_,d⟩;show k∈l.foldl dX (dX b a) ↔ _;rw[c k];delta dX;split;grind;grind
 obtain⟨c,d⟩:=this l [] Dl;exact⟨fun k=>by rw[show dv l=l.foldl dX [] from ρ,c k];simp,d⟩
theorem NC:∀{l:List (List e6)},l.Nodup->dv l=l:=by
 have:∀(l b:List (List e6)),(b++l).Nodup->l.foldl dX b=b++l:=by
  intro l;induction l with
  | nil=>intro b h;simp
  | cons a l ih=>intro b h;have ha:a∉b:=fun z=>(lp.1 h).2.2 a z a fk ρ;simp_all [dX]
 intro l h;exact this l [] h
theorem E7{i:Nat}{a:UF}{f:DF}{Z:DS}{l:List (List e6)}{c:Bool}{k:List e6}(h:f Z=al (.bl true,Z))(d:a Z=al (k,Z))(b:(Z[i]?).bind ownOf=al (false,.aN c<|a9 l))(h3:l.length<1000):qI i a f Z=al (.next<|Z.set i<|.O<|.aN false<|a9<|dX l k):=by delta qI;simp[h];simp[b];rw[d];show ((Z[i]?).bind ownOf).bind _=_;rw[b];show (if (a9 l).length<dk then _ else am)=_;rw[if_pos (by unfold a9 dk;rw[bt];lia),Nh];rfl
def bU(web:ay):List (List e6):=web.flatMap fun p=>(fY p.2).map fun q=>[p.1,q.1,q.2]
def wI(fn:a8):Prop:=∀web:ay,ba web->cv web->fn [aG web]=al (.O<|.aN false<|a9<|bU web)
theorem AN{web:ay}(h:∀p∈web,p.2.length<=12):(bU web).length<=12*web.length:=by
 delta bU;induction web with
 | nil=>simp
 | cons p web a=>have h1:=a fun q b=>h q<|eR _ b;have h2:=h p fk;simp only[W9,eW,bt,C3,gi];lia
theorem rH{web:ay}(nd:(web.map (·.1)).Nodup):bU web=(corners (web.map (·.1))<|cu web).map fun c=>[c.1,c.2.1,c.2.2]:=by delta bU corners;rw[List.map_flatMap,Z8];refine congrArg _ (wm fun p a=>?_);simp only[cM nd a,gk];rfl
theorem HW{web:ay}(h:ba web)(hw:cv web):(bU web).Nodup:=by rw[rH h.nd];refine hI.2<|List.Pairwise.imp (fun {a b} n e=>n ?_)<|kQ hw.C;lia
theorem M1{i:Nat}{Z:DS}{a:List e6}(h:Z[i]?=al (.D<|.L<|a.map .str))(hz:a.length<=100):tX (fO (cf i)<|fO (ij<|bW iJ (ij<|kW (cf i) (mh<|fC<|.int 1) qF)<|ij<|kW (cf i) qF<|mh<|fC<|.int 1) lJ) Z=al ((fY a).map fun q=>.U [.str q.1,.str q.2],Z):=by
 have b:cf i Z=al (.L<|a.map .str,Z):=by unfold cf;rw[h]
 have c:=L' a 1;have d:=B6 a 1;delta tX;rw[af b (af (ai (au (ai (tQ b ρ c) ρ) (ai (oK b ρ d) ρ)<|pL (by unfold dk;simp;omega)) ρ) ao)];show al (pF (a.map .str)<|(a.drop 1).map .str++(a.take 1).map .str,Z)=_;delta pF fY;rw[<-gf,List.zip_map,gk];rfl
theorem Ko(T:Txt mg)(r:mg "zip"=am){f:dn}{t:kq}(F:bz K "corners_of" "corners_of" yc f t):∃fn,br P w K mg base bj 1 f t ["rings"] (aI K fn)/\wI fn:=by
 refine' cI F HE ρ ?I ?B
 case I=>have fz:gX "rings":=⟨trivial⟩;have tp:nX "corners":=⟨trivial⟩;walk_at "h"
 intro web h hw;have hl:∀p∈web,p.2.length<=12:=fun p m=>h.len m;have bO:=h.bO;refine' dz ρ ?w;refine' aj<|aH ρ ρ<|aq ?_;refine' aj<|fu (fun k Z=>∃o l c e,Fr o/\Fr l/\Fr c/\Fr e/\Z=[.D (aG web),.O<|.aN false<|a9<|dv<|bU<|web.take k,o,l,c,e]) ρ ⟨_,_,_,_,ι ρ,ι ρ,ι ρ,ι ρ,ρ⟩ ?st ?C
 case C=>rintro _ ⟨o,l,c,e,u,v,g,i,rfl⟩;simp only[bt,show (cK web).length=web.length from bt ..,qt,NC<|HW h hw];exact aq<|aj<|cc ρ ⟨_,ρ⟩
 rintro k x hx _ ⟨o,l,c,e,u,v,g,i,rfl⟩;unfold cK at hx;rw[gk,c6] at hx;obtain⟨p,ep,rfl⟩:=gW.1 hx;have m:=eH ep;have hlp:=hl p m;have hk:=(cm.1 ep).1;have r:=AN (web:=web.take k) fun q J=>hl q<|Yp J;rw[hY] at r;refine⟨[.D (aG web),.O<|.aN false<|a9<|dv<|bU<|web.take k,.D<|.str p.1,l,c,e],by rcases u with rfl|⟨d,rfl⟩<;>rfl,?_⟩;refine' aj<|aH (Z2:=[.D (aG web),.O<|.aN false<|a9<|dv<|bU<|web.take k,.D<|.str p.1,.D<|.L<|p.2.map .str,c,e]) (v_res<|kF ρ ρ<|lD h.nd m) ?a<|aq ?b
 case a=>rcases v with rfl|⟨d,rfl⟩<;>rfl
 refine aj<|fu (fun j Z=>∃c e,Fr c/\Fr e/\Z=[.D (aG web),.O<|.aN false<|a9<|dv (bU (web.take k)++((fY p.2).take j).map fun q=>[p.1,q.1,q.2]),.D<|.str p.1,.D<|.L<|p.2.map .str,c,e]) (M1 ρ (by lia)) ⟨_,_,g,i,by simp only[aaD,Yz,sb]⟩ ?_ ?_
 ·rintro j y z _ ⟨c,e,g,i,rfl⟩;rw[c6] at z;obtain⟨q,eq,rfl⟩:=gW.1 z;generalize D:dv (bU (web.take k)++((fY p.2).take j).map fun q=>[p.1,q.1,q.2])=L;have G:L.length<1000:=by rw[<-D];refine X1 (B0 _) ?_;simp only[eW,bt,hY,C3];lia
  refine⟨[.D (aG web),.O<|.aN false<|a9 L,.D<|.str p.1,.D<|.L<|p.2.map .str,.D<|.str q.1,.D<|.str q.2],by rcases g with rfl|⟨d,rfl⟩<;>rcases i with rfl|⟨d,rfl⟩<;>rfl,?_⟩;refine aj ⟨_,E7 (k:=[p.1,q.1,q.2]) ρ ρ ρ G,aq<|aZ ⟨.D<|.str q.1,.D<|.str q.2,τ ⟨_,ρ⟩,τ ⟨_,ρ⟩,?_⟩⟩;rw[fS eq,gf,<-um];show _=[_,Slot.O<|.aN false<|a9<|dv<|_++[_],_,_,_,_];rw[DU,D];rfl
 rintro _ ⟨c,e,g,i,rfl⟩;refine aq<|aZ ⟨.D<|.str p.1,.D<|.L<|p.2.map .str,c,e,τ ⟨_,ρ⟩,τ ⟨_,ρ⟩,g,i,?_⟩;rw[fS ep,show bU (web.take k++[p])=bU (web.take k)++(fY p.2).map fun q=>[p.1,q.1,q.2] from by unfold bU;simp,bt,qt]
theorem Nz(l:List (List e6))(k:List e6):(fU (a9 l) k).isSome=bd (k∈l):=by delta fU a9;rw[t8];simp
theorem vL{neg b:Bool}{i:Nat}{a:UF}{Z:DS}{k:List e6}{l:List (List e6)}(h:a Z=al (k,Z))(c:(Z[i]?).bind j8=al (.aN b<|a9 l)):mW neg i a Z=al (.D<|.bl (if neg then !bd (k∈l) else bd (k∈l)),Z):=by delta mW;rw[h];show ((Z[i]?).bind j8).bind _=_;rw[c,<-Nz];rfl
theorem pJ(n:e6):dW n=bi ↔ n∈bu:=by simp[dW,bu,aA,or_assoc]
theorem pH{k:Nat}(h:k<4):aA k∈bu:=by grind [bu]
theorem kI{n:e6}(h:n∈bu):∃k,k<4/\n=aA k:=by
 simp[bu] at h;rcases h with rfl|rfl|rfl|rfl
 ·exact⟨0,by decide,rfl⟩
 ·exact⟨1,by decide,rfl⟩
 ·exact⟨2,by decide,rfl⟩
 exact⟨3,by decide,rfl⟩
def CU(fn:a8):Prop:=∀(cs:List (List e6)) (x n m:e6),bf x->bf n->bf m->(∀k,k<4->n=aA k->m∈bu->m=aA ((k+1)%4))->(n∉bu->[n,m,x]∈cs)->(m∉bu->[m,x,n]∈cs)->fn [.U [.str x,.str n,.str m],.aN true<|a9 cs]=al (.D<|.bl true)
theorem Oo(T:Txt mg)(w1:fQ K mg "WALLS" mB){c:a8}(p:aY P w K mg base "follower" 1 (aI K c))(q:ui c){f:dn}{g:kq}(F:bz K "corner_closes" "corner_closes" Aw f g):∃fn,br P w K mg base bj 2 f g ["corner","corners"] (aI K fn)/\CU fn:=by
 refine' cI F Df ρ ?C ?B
 case C=>walk_at "h"
 intro cs x n m tx i d r t u;refine' dz ρ ?w;refine' aj<|aH ρ ρ<|aq<|aj<|aH ρ ρ<|aq<|aj<|aH ρ ρ<|aq ?_;refine aj (fJ (mK (bM<|au ρ ρ<|pO i.ok false)<|bM<|au ρ ρ<|pO d.ok false) (fun h=>?_) fun h=>aZ<|aq ?_)
 ·simp[pJ] at h;obtain⟨k,j,rfl⟩:=kI h.1;have e:=q k j;refine aj (cc (au ρ (ai (aO (af ρ ao) e) ρ)<|wX d.ok (lV _<|pH<|Xx _ (by decide)).ok)<|km ?_);exact decide_eq_true<|r k j ρ h.2
 refine' fI (mK (bM<|au ρ ρ<|pO i.ok true)<|bM<|vL ρ ρ) ?a ?b
 case a =>
  by_cases l:n∈bu
  ·rw[(pJ n).2 l];rfl
  rw[decide_eq_true (t l)];simp
 refine aj<|cc (v_res<|wG (ai (au ρ ρ<|pO d.ok false) ρ)<|ai (vL ρ ρ) ρ)<|km ?_;by_cases o:m∈bu
 ·rw[(pJ m).2 o];rfl
 rw[decide_eq_true (u o)];simp
def CJ(fn:a8):Prop:=∀web:ay,ba web->cv web->fn [aG web]=al (.D<|.bl true)
theorem sf{web:ay}(h:ba web){x n m:e6}:[x,n,m]∈bU web ↔ x∈web.map (·.1)/\aE (cu web x) n m:=by
 rw[rH h.nd,<-fx,bg];constructor
 ·rintro⟨⟨a,b,c⟩,d,e⟩;simp_all
 exact fun d=>⟨_,d,ρ⟩
theorem PQ(T:Txt mg){q r:a8}(v:aY P w K mg base "corners_of" 1 (aI K q))(D:wI q)(G:aY P w K mg base "corner_closes" 2 (aI K r))(I:CU r){f:dn}{u:kq}(F:bz K "corners_close" "corners_close" zL f u):∃fn,br P w K mg base bj 3 f u ["rings"] (aI K fn)/\CJ fn:=by
 refine' cI F G2 ρ ?J ?B
 case J=>have nd:=G2.nd;have tp:nX "corners":=⟨trivial⟩;walk_at "h"
 intro web h hw;have L:=D web h hw;have hl:=AN fun p M=>h.len M;have bO:=h.bO;refine' dz ρ ?w;refine' aj<|aH (aO (af ρ ao) L) ρ<|aq ?_;refine' aj<|cc (qd (xs:=bU web) (fun k=>[.no,.D<|.U<|k.map .str,.D<|.aN true<|a9<|bU web]) (Z1:=[.D (aG web),.D<|.aN true<|a9<|bU web]) ?a ρ ?b ?c ?d ?e) ⟨_,ρ⟩
 case a=>show al (jX<|a9<|bU web,_)=_;dsimp only[jX,a9];rw[gk];rfl
 case b=>unfold dk;lia
 case c=>intro y l Z hd;rcases hd with rfl|⟨z,rfl⟩<;>rfl
 case e=>intro y l;rfl
 intro y l;have t:=l;rw[rH h.nd] at t;obtain⟨⟨x,n,m⟩,_,rfl⟩:=bg.1 t;obtain⟨hx,g⟩:=(sf h).1 l;have tx:∀z∈cu web x,bf z:=fun z N=>h.txt<|hw.C.mem x hx z N
 have:=I (bU web) x n m (h.txt<|ι hx) (tx n g.mem.1) (tx m g.mem.2) (fun k O Q i=>by
  obtain⟨j,R,rfl⟩:=kI i;rw[hw.ww x hx k j O R (by rw[<-Q];exact g)]) (fun o=>by
  have o:=(hw.C.mem x hx n g.mem.1).resolve_right o;exact (sf h).2 ⟨o,hw.C.gU x hx n m g o⟩) (fun i=>by
  have i:=(hw.C.mem x hx m g.mem.2).resolve_right i;exact (sf h).2 ⟨i,hw.C.gP x hx n m g i⟩)
 exact ai (aO (af ρ<|af ρ ao) this) ρ
theorem MX{a:List e6}(nd:a.Nodup){p wl:e6}(s:aE a p wl):∃j,a.findIdx? (fun x=>bd<|x=wl)=al j/\cp (.L<|a.map .str) (.int<|(j:Int)-1)=al (.str p):=by
 obtain⟨i,b,c⟩:=s;have hi:=(cm.1 b).1;obtain⟨d,e⟩:=cm.1 c;refine⟨(i+1)%a.length,X4.2 ⟨d,by simpa using e,fun k hk=>?_⟩,?_⟩
 ·intro z;have:=jf nd (i:=k) (cm.2 ⟨by lia,by simpa using z⟩) c;lia
 simp only[iV];unfold di;have:fZ (a.map Dat.str).length (((i+1)%a.length:Nat)-1:Int)=al i:=by
  rw[bt];unfold fZ;by_cases hl:i+1<a.length;simp_all [hS];have:i+1=a.length:=by lia
  rw[this,Dt,if_neg (by omega),if_pos (by omega)]
  congr 1;omega
 simp only[this,ma,c6,b];rfl
theorem DZ{c:BF}{fb:SF}{Z Z1:DS}{Q:Out->Prop}{n:Nat}(h:c Z=al (false,Z1))(q:Q (.next Z1)):WS (g9 c fb<|n+1) Z Q:=by refine⟨_,?_,q⟩;show (c Z).bind _=_;rw[h];rfl
def DH (h:c Z=al (true,Z1))(hb:fb Z1=al (.next Z2))(q:WS (g9 c fb n) Z2 Q):WS (g9 c fb<|n+1) Z Q:=by obtain⟨o,e,q⟩:=q;refine⟨o,?_,q⟩;show (c Z).bind _=_;simp_all
theorem PB (D:List e6->e6->Slot->DS)(stop:∀d a t,a∉rooms->c (D d a t)=al (false,D d a t))(go:∀d a p t,Fr t->a∈rooms->aE (ring a) p wl->d.length<500->c (D d a t)=al (true,D d a t)/\∃t',Fr t'/\fb (D d a t)=al (.next<|D (d++[a]) p t'))(r:Row rooms ring wl a l) :
  ∀(d:List e6) (t:Slot) (n:Nat),Fr t->l.length<n->d.length+l.length<500->(∀e t',Q<|.next<|D (d++l) e t')->WS (g9 c fb n) (D d a t) Q:=by
 induction r with
 | @stop b h=>intro d t n g f _ q;obtain⟨n,rfl⟩:∃m,n=m+1:=⟨n-1,by simp at f;omega⟩;refine DZ (stop d _ t h) ?_;have:=q b t;rw[sb] at this;exact this
 | @go a p l h s _ j=>intro d t n g f hl q;simp at f hl;obtain⟨n,rfl⟩:∃m,n=m+1:=⟨n-1,by omega⟩;obtain⟨k,t',o,u⟩:=go d a p t g h s (by omega);refine DH k u (j _ _ _ o (by lia) (by simp only[eW,Hz];omega) λe i=>?_);rw[um];exact q e i
def Dw(fn:a8):Prop:=∀(web:ay) (wl a:e6) (l:List e6),ba web->bf wl->Row (web.map (·.1)) (cu web) wl a l->l.length<100->fn [aG web,.str wl,.str a]=al (.O<|.L<|l.map .str)
def LH(T:Txt mg)(F:bz K "row_along" "row_along" A' f g):∃fn,br P w K mg base bj 1 f g ["rings","wall","first"] (aI K fn)/\Dw fn:=by
 refine' cI F Ei ρ ?B ?C
 case B=>have fz:gX "rings":=⟨trivial⟩;walk_at "h"
 intro web wl a l h i r hl;refine' dz ρ ?w;refine' aj<|aH (cG ao<|pd _) ρ<|aq<|aj<|aH ρ ρ<|aq ?_;refine' aj<|PB (λc b t=>[.D (aG web),.D<|.str wl,.D<|.str a,.O<|.L<|c.map .str,.D<|.str b,t]) ?stop ?go r [] .no sJ (ι ρ) ?n ?m ?q
 case n=>unfold sJ;omega
 case m=>simp only[XA];omega
 case q=>exact λa' t'=>aq<|aj<|cc ρ ⟨_,ρ⟩
 case stop=>intro c b t B;have e:=lF web b false;rw[decide_eq_false B] at e;exact bM<|au ρ ρ e
 intro c b p t o B k ha;have e:=lF web b false;rw[decide_eq_true B] at e;obtain⟨x,hx,rfl⟩:=bg.1 B;rw[cM h.nd hx] at k;have tr:∀z∈x.2,bf z:=λz u=>h.txt ((h.rg x hx).2.2 z u).1;obtain⟨j,v,y⟩:=MX (h.rg x hx).2.1 k;refine⟨bM<|au ρ ρ e,.D<|.L<|x.2.map .str,τ ⟨_,ρ⟩,?_⟩;refine uu (oQ<|mV ρ ρ (by unfold dk;rw[bt];omega))<|uI<|uu (nc (Z2:=[.D (aG web),.D<|.str wl,.D<|.str a,.O<|.L<|(c++[x.1]).map .str,.D<|.str x.1,.D<|.L<|x.2.map .str]) (v_res<|kF ρ ρ<|lD h.nd hx) ?_)<|uI<|uu (nc (v_res<|bc ρ (ai (au (CI ρ (af ρ ao) (wg tr) (kL i.ok)<|(PD tr i).trans v) ρ<|yW ρ) ρ) ρ y) ρ)<|uI ρ;rw[gf];rcases o with rfl|⟨d,rfl⟩<;>rfl
def FD{web:ay}(nd:(web.map (·.1)).Nodup)(keep:e6×List e6->Bool):((web.filter keep).map (·.1)).Nodup:=nE (List.Sublist.map _ n5) nd
def uK (p:l.Perm a):bp l=bp a:=rN ((gn _ _).trans p)<|uE l
theorem qJ (h:l.length<64):kN [.L (l.map .str)]=al (.O<|.L<|(bp l).map .str):=by
 show (match dH (l.map .str) with
  | some a=>if a.length<64 then al (Res.O<|.L<|(bp a).map .str) else am
  | none=>oX [.L (l.map .str)])=_
 have:=qN (λx:e6=>x) l;rw[ZS] at this;rw[this];exact if_pos h
theorem yt:∀l:List e6,fX (l.map Dat.str) (l.map Dat.str)=bi
 | []=>rfl
 | x::l=>by show (cY (.str x) (.str x)&&fX (l.map Dat.str) (l.map Dat.str))=bi;rw[yt l,mH];simp
def Gn(fn:a8):Prop:=∀(web:ay) (k:Nat),k<4->ba web->cv web->fn [aG web,.str<|aA k]=al (.D<|.bl true)
def Kg(T:Txt mg)(G:aY P w K mg base "corners_of" 1 (aI K d))(I:wI d)(J:aY P w K mg base "follower" 1 (aI K e))(L:ui e)(M:aY P w K mg base "row_along" 1 (aI K g))(N:Dw g)(F:bz K "wall_has_row" "wall_has_row" xj f q):∃fn,br P w K mg base bj 2 f q ["rings","wall"] (aI K fn)/\Gn fn:=by
 refine' cI F Bu ρ ?B ?C
 case B=>have nd:=Bu.nd;have fz:gX "rings":=⟨trivial⟩;walk_at "h"
 intro web k i h hw;obtain⟨x,hx,r,l,O,t,j⟩:=hw.row k i;have bO:=h.bO;have sz:web.length<=sizeLine:=by unfold dk;lia
 have u:=lV _<|pH i;have Q:=L k i;have hll:l.length<=8:=ia (zF t λy m=>((j y).1 m).1) (by rw[bt];lia);have v:(cK web).map (λk=>Dat.str k.1)=web.map λp=>Dat.str p.1:=by unfold cK;rw[gk];rfl
 have R:(web.filter λp=>bd<|[p.1,aA k,aA<|(k+1)%4]∈bU web).map (·.1)=[x]:=by
  refine List.perm_singleton.1 ((pl (FD h.nd _) (by simp)).2 λa=>?_);rw[bg,n6];constructor
  ·rintro⟨p,b,rfl⟩;rw[f',decide_eq_true_eq,sf h] at b;exact (r p.1 b.2.1).1 b.2.2
  rintro rfl;obtain⟨p,b,rfl⟩:=bg.1 hx;exact⟨p,f'.2 ⟨b,decide_eq_true<|(sf h).2 ⟨hx,(r _ hx).2 ρ⟩⟩,ρ⟩
 have c:l.Perm ((web.filter λp=>bd<|aA k∈p.2).map (·.1)):=by
  refine (pl t<|FD h.nd _).2 λa=>?_;rw[j];constructor
  ·rintro⟨S,B⟩;rw[bg];obtain⟨p,b,rfl⟩:=bg.1 S;rw[cM h.nd b] at B;exact⟨p,f'.2 ⟨b,decide_eq_true B⟩,ρ⟩
  intro B;obtain⟨p,b,rfl⟩:=bg.1 B;rw[f',decide_eq_true_eq] at b;exact⟨bg.2 ⟨p,b.1,ρ⟩,by rw[cM h.nd b.1];exact b.2⟩
 refine' dz ρ ?w;show WS _ [.D (aG web),.D<|.str<|aA k,.no,.no,.no] _;refine' aj<|aH (aO (af ρ ao)<|I web h hw) ρ<|aq ?_;show WS _ [.D (aG web),.D<|.str<|aA k,.O<|.aN false<|a9<|bU web,.no,.no] _;refine' aj<|aH (Z2:=[.D (aG web),.D<|.str<|aA k,.D<|.aN false<|a9<|bU web,.O<|.L<|[x].map .str,.no]) (k9 (enc:=λp:e6×List e6=>.str p.1) (xs:=web) (λp=>[.no,.D<|.str p.1,.D<|.aN false<|a9<|bU web,.D<|.str<|aA k]) (λp=>bd<|[p.1,aA k,aA<|(k+1)%4]∈bU web) (λp=>.str p.1) ?U ρ sz ?V ?W ?X ?Y) ?a6<|aq ?a7
 case U=>show al ((cK web).map λk=>Dat.str k.1,_)=_;rw[v]
 case V=>intro y m Z hd;rcases hd with rfl|⟨z,rfl⟩<;>rfl
 case W=>intro p b;refine bM<|vL (k:=[p.1,aA k,aA<|(k+1)%4]) ?_ ρ;unfold yN;rw[af ρ (af ρ<|af (ai (aO (af ρ ao) Q) ρ) ao)];rfl
 case X=>intro p b _;rfl
 case Y=>intro p b;rfl
 case a6=>rw[<-R,gk];rfl
 refine' fI (bM<|au (fH ρ ρ) ρ<|ne_int _ _) ρ ?zz;have tr:∀p∈web,∀z∈p.2,bf z:=λp b z o=>h.txt ((h.rg p b).2.2 z o).1;generalize hT:(web.filter λp=>bd<|aA k∈p.2).map (·.1)=td at c;have htl:=c.length_eq;refine' aj<|aH (Z2:=[.D (aG web),.D<|.str<|aA k,.D<|.aN false<|a9<|bU web,.O<|.L<|[x].map .str,.O<|.L<|td.map .str]) (k9 (enc:=λp:e6×List e6=>.str p.1) (xs:=web) (λp=>[.no,.D<|.str p.1,.D<|aG web,.D<|.str<|aA k]) (λp=>bd<|aA k∈p.2) (λp=>.str p.1) ?b1 ρ sz ?b2 ?b3 ?b4 ?b5) ?b6<|aq ?b7
 case b1=>show al ((cK web).map λk=>Dat.str k.1,_)=_;rw[v]
 case b2=>intro y m Z hd;rcases hd with rfl|⟨z,rfl⟩<;>rfl
 case b3=>intro p b;exact bM<|au ρ (kF ρ ρ<|lD h.nd b)<|jC (tr p b) u false
 case b4=>intro p b _;rfl
 case b5=>intro p b;rfl
 case b6=>rw[<-hT,gk];rfl
 have tl:∀z∈bp l,bf z:=λz o=>h.txt<|ι ((j z).1 ((gn _ _).mem_iff.1 o)).1;have D:=wg tl;refine aj<|cc (au (ai (aO (af (ai (aO (af ρ<|af ρ<|af (bc ρ ρ ρ ρ) ao)<|N web (aA k) x l h u O (by omega)) ρ) ao)<|qJ (by omega)) ρ) (ai (aO (af ρ ao)<|qJ (by omega)) ρ)<|v_eq D (by rw[<-uK c];exact D))<|km ?_;rw[<-uK c];show cY (.L _) (.L _)=bi;rw[iF,yt]
def D5(fn:a8):Prop:=∀ring names:List e6,(∀n∈ring,bf n)->(∀n∈names,bf n)->ring.length<=100->fn [.L (ring.map .str),.L<|names.map .str]=al (.D<|.bl (ring.any λy=>bd<|y∈names))
def Tf(T:Txt mg)(h:mg "any"=am)(F:bz K "has_one_of" "has_one_of" Ai f e):∃fn,br P w K mg base bj 1 f e ["ring","names"] (aI K fn)/\D5 fn:=by
 refine' cI F Em ρ ?C ?B
 case C=>have nd:=Em.nd;walk_at "h"
 intro ring names i j hl;refine' dz ρ ?w;refine' aj<|cc (aO (af (ai (gS (λn=>[.no,.D<|.str n,.D<|.L<|names.map .str]) (λn=>.bl<|bd<|n∈names) (da ρ) ρ ?a ?b ?c ?d) ρ) ao)<|QR (λn=>bd<|n∈names) ring) ⟨_,ρ⟩
 case a=>unfold dk;lia
 case b=>intro y hy Z hd;rcases hd with rfl|⟨z,rfl⟩<;>rfl
 case c=>intro n g;exact ai (au ρ ρ<|jC j (i n g) false) ρ
 intro n g;rfl
def Cr(n:Nat):(cN 0 (n:Int)).length=n:=by simp[cN]
abbrev mi(web:ay):Nat->List Str:=reach (web.map (·.1)) bu<|cu web
def Tw (nd:(web.map (·.1)).Nodup)(k:Nat):mi web (k+1)=bu++(web.filter λp=>p.2.any λy=>bd<|y∈mi web k).map (·.1):=by
 show bu++(web.map (·.1)).filter _=_;rw[ab8];congr 2;refine W' λp a=>?_
 show (cu web p.1).any _=_;rw[cM nd a]
def Fw(fn:a8):Prop:=∀web:ay,ba web->cv web->fn [aG web]=al (.D<|.bl true)
theorem Mh(T:Txt mg)(w1:fQ K mg "WALLS" mB)(o:aY P w K mg base "has_one_of" 1 (aI K g))(q:D5 g)(F:bz K "all_reached" "all_reached" AE f j):∃fn,br P w K mg base bj 2 f j ["rings"] (aI K fn)/\Fw fn:=by
 refine' cI F BW ρ ?D ?B
 case D=>have nd:=BW.nd;have fz:gX "rings":=⟨trivial⟩;walk_at "h"
 intro web h hw;have bO:=h.bO;have sz:web.length<=sizeLine:=by unfold dk;lia
 have l:(cK web).map (λk=>Dat.str k.1)=web.map λp=>Dat.str p.1:=by unfold cK;rw[gk];rfl
 have t:(cK web).length=web.length:=bt ..;have tr:∀p∈web,∀z∈p.2,bf z:=λp a z i=>h.txt ((h.rg p a).2.2 z i).1
 have b:∀k,∀z∈mi web k,bf z:=λk z i=>h.txt ((λh=>by
   cases k with
   | zero=>exact τ h
   | succ k =>
    rcases ee.1 h with h|h
    ·exact τ h
    exact ι (f'.1 h).1) i)
 refine' dz ρ ?w;refine' aj<|aH ρ ρ<|aq ?_;refine' aj<|fu (λk Z=>∃c,Fr c/\Z=[.D (aG web),.O<|.L<|(mi web k).map .str,c]) (qz (af (fH ρ<|congrArg al t) ao) ?r) ⟨_,ι ρ,ρ⟩ ?st ?C
 case r=>lia
 case st =>
  rintro k x hx _ ⟨c,m,rfl⟩;have b:=b k;rw[Tw h.nd];generalize mi web k=R at *;obtain⟨_,rfl⟩:=ux hx;refine⟨[.D (aG web),.O<|.L<|R.map .str,.D<|.int k],by rcases m with rfl|⟨d,rfl⟩<;>rfl,?_⟩;refine' aj<|aH (au (ai (aO (af ρ ao) ρ) ρ) (ai (k9 (λp=>[.no,.D<|.str p.1,.D<|.L<|R.map .str,.D<|aG web]) (λp=>p.2.any λy=>bd<|y∈R) (λp=>.str p.1) ?G ρ sz ?I ?J ?L ?M) ρ)<|pL ?N) ?O<|aq<|aZ ⟨_,τ ⟨_,ρ⟩,ρ⟩
  case G=>show al ((cK web).map λk=>Dat.str k.1,_)=_;rw[l]
  case I=>intro y u Z hd;rcases hd with rfl|⟨z,rfl⟩<;>rfl
  case J=>intro p a;have:=h.len a;exact fq (ai (aO (af (kF ρ ρ<|lD h.nd a)<|af ρ ao)<|q p.2 R (tr p a) b (by lia)) ρ) ρ
  case L=>intro p a _;rfl
  case M=>intro p a;rfl
  case N=>have:=qe (λp:e6×List e6=>p.2.any λy=>bd<|y∈R) web;rw[bt];show 4+_<=dk;delta dk;lia
  rw[gf,gk];rfl
 rintro _ ⟨c,m,rfl⟩;rw[Cr];refine' aq<|aj<|cc (qd (λp=>[.no,.D<|.str p.1,.D<|.L<|(mi web web.length).map .str]) ?Q ρ sz ?S ?U ?V) ⟨_,ρ⟩
 case Q=>show al ((cK web).map λk=>Dat.str k.1,_)=_;rw[l]
 case S=>intro y u Z hd;rcases hd with rfl|⟨z,rfl⟩<;>rfl
 case V=>intro p a;rfl
 intro p a;have:p.1∈mi web web.length:=by have:=hw.all p.1<|bg.2 ⟨p,a,ρ⟩;rw[bt] at this;exact this
 have e:=jC (b web.length) (h.txt<|ι<|bg.2 ⟨p,a,ρ⟩) false;rw[decide_eq_true this] at e;exact ai (au ρ ρ e) ρ
def jv(x n:e6):Bool:=dW n||jB x n
def kE(web:ay):Nat:=az (λp=>p.2.countP<|jv p.1) web
def T3(a b):rX (.str a) (.str b)=al (.D<|.bl<|jB a b):=by show al (Res.D<|.bl<|bd<|a.cps.toList<b.cps.toList)=_;simp[jB,dh]
def Br(fn:a8):Prop:=∀web:ay,ba web->∃r,fn [aG web]=al r/\∃ds,r=.O (.L ds)/\ds.length=kE web
theorem PN(T:Txt mg)(w1:fQ K mg "WALLS" mB)(F:bz K "ties_of" "ties_of" y9 f o):∃fn,br P w K mg base bj 1 f o ["rings"] (aI K fn)/\Br fn:=by
 refine' cI F Fn ρ ?C ?B
 case C=>have fz:gX "rings":=⟨trivial⟩;walk_at "h"
 intro web h;have bO:=h.bO;have tr:∀p∈web,∀z∈p.2,bf z:=λp e z t=>h.txt ((h.rg p e).2.2 z t).1;have u:∀k,k<=web.length->kE (web.take k)<=12*k:=by
  intro k;induction k with
  | zero=>intro _;exact fj _
  | succ k v=>intro G;obtain⟨p,ep⟩:∃p,web[k]?=al p:=⟨web[k],cn (by lia)⟩;have h2:=h.len<|eH ep;have h3:=Zh (p:=jv p.1) (l:=p.2);unfold kE at *;simp only[fS ep,uC];show _+(p.2.countP (jv p.1)+0)<=_;lia
 refine' zi ρ ?w;refine' aj<|aH (cG ao<|pd _) ρ<|aq ?_;refine' aj<|fu (λk Z=>∃ds i a,Fr i/\Fr a/\ds.length=kE (web.take k)/\Z=[.D (aG web),.O<|.L ds,i,a]) ρ ⟨[],_,_,ι ρ,ι ρ,ρ,ρ⟩ ?st ?D
 case D=>rintro _ ⟨ds,i,a,q,c,hd,rfl⟩;rw[bt,show (cK web).length=web.length from bt ..,qt] at hd;exact aq<|aj<|cc ρ ⟨_,_,ρ,ds,ρ,hd⟩
 rintro k x hx _ ⟨ds,i,a,q,c,hd,rfl⟩;unfold cK at hx;rw[gk,c6] at hx;obtain⟨p,ep,rfl⟩:=gW.1 hx;have e:=eH ep;have G:=(cm.1 ep).1;have hlp:=h.len e;have C:=u k (by lia);refine⟨[.D (aG web),.O<|.L ds,.D<|.str p.1,a],by rcases q with rfl|⟨d,rfl⟩<;>rfl,?_⟩;refine aj<|fu (λj Z=>∃b a,Fr a/\b.length=kE (web.take k)+(p.2.take j).countP (jv p.1)/\Z=[.D (aG web),.O<|.L b,.D<|.str p.1,a]) (da<|kF ρ ρ<|lD h.nd e) ⟨ds,a,c,by rw[hd];simp,rfl⟩ ?_ ?_
 ·rintro j y r _ ⟨b,a,c,g,rfl⟩;rw[c6] at r;obtain⟨n,m,rfl⟩:=gW.1 r;have I:=eH m;have J:=Zh (p:=jv p.1) (l:=p.2.take j);simp at J;refine⟨[.D (aG web),.O<|.L b,.D<|.str p.1,.D<|.str n],by rcases c with rfl|⟨d,rfl⟩<;>rfl,?_⟩;refine aj (fJ (BA (bM<|au ρ ρ<|pO (tr p e n I).ok false)<|bM<|au ρ ρ<|T3 _ _) (λz=>?_) λz=>aZ<|aq<|aZ ⟨b,_,τ ⟨_,ρ⟩,?_,ρ⟩)
  ·refine aj ⟨_,oQ<|mV ρ (af (gv (af ρ<|af ρ ao) (by simp[dk])) ao) (by unfold dk;lia),aq<|aZ<|aq<|aZ ⟨b++[.U [.str p.1,.str n]],.D<|.str n,τ ⟨_,ρ⟩,?_,ρ⟩⟩;rw[fS m,pq,eW,g,aa7,if_pos (show jv p.1 n=bi from z)];simp;lia
  rw[fS m,pq,aa7,if_neg (by rw[show jv p.1 n=bn from z];simp)];exact g
 rintro _ ⟨b,a,c,g,rfl⟩;rw[bt,qt] at g;refine aq<|aZ ⟨b,.D<|.str p.1,a,τ ⟨_,ρ⟩,c,?_,ρ⟩;simp only[g,fS ep];delta kE;simp[uC];rfl
def uU(fn:a8):Prop:=∀web:ay,ba web->cv web->fn [aG web]=al (.O<|.aN false<|a9<|dv<|(bU web).map bp)
def Mi(T:Txt mg)(m:aY P w K mg base "corners_of" 1 (aI K e))(o:wI e)(F:bz K "threes_of" "threes_of" AO f g):∃fn,br P w K mg base bj 2 f g ["rings"] (aI K fn)/\uU fn:=by
 refine' cI F Hg ρ ?D ?B
 case D=>have tp:nX "threes":=⟨trivial⟩;have tp2:nX "corners_of":=⟨trivial⟩;walk_at "h"
 intro web h hw;have bO:=h.bO;have hl:=AN λp q=>h.len q;refine' dz ρ ?w;refine' aj<|aH ρ ρ<|aq ?_;refine' aj<|fu (λk Z=>∃b,Fr b/\Z=[.D (aG web),.O<|.aN false<|a9<|dv<|((bU web).take k).map bp,b]) ?a ⟨_,ι ρ,ρ⟩ ?st ?C
 case a=>unfold vo;rw[aO (af ρ ao) (o web h hw)];show al (jX<|a9<|bU web,_)=_;dsimp only[jX,a9];rw[gk];rfl
 case C=>rintro _ ⟨b,i,rfl⟩;rw[bt,qt];exact aq<|aj<|cc ρ ⟨_,ρ⟩
 rintro k x hx _ ⟨b,i,rfl⟩;rw[c6] at hx;obtain⟨c,j,rfl⟩:=gW.1 hx;rw[fS j,gf];show ∃Z1,_/\WS _ Z1 (xK (λZ=>∃b,Fr b/\Z=[.D (aG web),.O<|.aN false<|a9<|dv<|((bU web).take k).map bp++[bp c],b]) _);rw[DU];have hc3:c.length=3:=by have:=eH j;rw[rH h.nd] at this;obtain⟨z,_,rfl⟩:=bg.1 this;rfl
 generalize r:dv (((bU web).take k).map bp)=L;have l:L.length<1000:=by rw[<-r];apply X1<|B0 _;rw[bt,hY];lia
 refine⟨[.D (aG web),.O<|.aN false<|a9 L,.D<|.U<|c.map .str],by rcases i with rfl|⟨d,rfl⟩<;>rfl,?_⟩;refine aj ⟨_,E7 ρ ?_ ρ l,aq<|aZ ⟨.D<|.U<|c.map .str,τ ⟨_,ρ⟩,ρ⟩⟩;have t:kN [.U (c.map .str)]=al (.O<|.L<|(bp c).map .str):=by show (dH<|c.map .str).bind _=_;have:=qN (λx:e6=>x) c;simp_all
 unfold xF;rw[af (ai (aO (af ρ ao) t) ρ) ao];show (dH<|(bp c).map .str).map _=_;have:=qN (λx:e6=>x)<|bp c;simp_all
def Qw (a:ds.length=m)(h:WS s (iL n ds) λo=>∃Z,o=.next Z):iH m (jj n s) ds=al (.D .aU):=by obtain⟨o,e,Z,rfl⟩:=h;delta iH;rw[if_pos a];exact (λh=>by unfold jj;rw[h];rfl) e
theorem Aq (g:b->c)(f:c->Nat):∀l:List b,az f (l.map g)=az (λa=>f<|g a) l
 | []=>rfl
 | a::l=>by show f (g a)+az f (l.map g)=f (g a)+_;rw[Aq g f l]
def Rn:bp l=bp a ↔ l.Perm a:=by
 constructor
 ·intro e;have b:=gn l dh;have c:=gn a dh;rw[show l.mergeSort dh=a.mergeSort dh from e] at b;exact b.symm.trans c
 exact uK
theorem Pw (h:ba web)(hw:cv web):(dv<|(bU web).map bp).length+web.length=kE web+1:=by
 obtain⟨f,g⟩:=v9<|(bU web).map bp;have j:=hw.C.threes zt (λc _ c' _=>Rn) g (λk=>by rw[f,rH h.nd,gk,bg];rfl)
 have m:=hw.zo;rw[<-j,bt,Aq,Aq] at m;have e3:az (λp:e6×List e6=>(cu web p.1).countP λy=>!ah (web.map (·.1)) y) web+az (λp:e6×List e6=>(cu web p.1).countP λy=>ah (web.map (·.1)) y&&jB p.1 y) web=kE web:=by
  unfold kE;rw[<-jH];refine cS λp n=>?_;rw[cM h.nd n];have o:∀y∈p.2,(y∈web.map (·.1)\/y∈bu):=λy a=>((h.rg p n).2.2 y a).1;have hd:=λy a=>hw.C.cE y a;generalize p.2=l at *;induction l with
  | nil=>rfl
  | cons y l q =>
   have i:=q<|λz r=>o z<|eR _ r;simp only[me,me];have a:=o y fk;by_cases b:y∈web.map (·.1)
   ·have d:ah (web.map (·.1)) y=bi:=decide_eq_true b;have e:dW y=bn:=by rw[<-abW,pJ];exact hd y b
    rw[show jv p.1 y=jB p.1 y from by unfold jv;rw[e];rfl,d,<-i];lia
   have d:ah (web.map (·.1)) y=bn:=decide_eq_false b;have e:=(pJ y).2 (a.resolve_left b);rw[show jv p.1 y=bi from by unfold jv;rw[e];rfl,d,<-i];lia
 lia
theorem xm (nd:(web.map (·.1)).Nodup):vJ [.L (web.map pairD)]=al (.O<|.bV<|cK web):=by
 have:∀l:ay,nN (l.map pairD)=al (cK l):=by
  intro l;induction l with
  | nil=>rfl
  | cons p l a=>show (nN<|l.map pairD).map _=_;rw[a];rfl
 show (nN<|web.map pairD).bind _=_;rw[this];apply if_pos;delta cK;rw[gk];exact nd
def xi(fn:a8):Prop:=∀web:ay,ba web->cv web->fn [.L (web.map pairD)]=al (.D .aU)
def wM (h:a Z=al (ds,Z1))(e:fn ds=al (.D<|.bl true)):sM (lK<|ij<|cb fn a) Z=al (false,Z1):=mG<|fq (ai (aO h e) ρ) ρ
def QU(T:Txt mg)(w1:fQ K mg "WALLS" mB)(x:aY P w K mg base "has_form" 3 (aI K c))(D:GB c)(G:aY P w K mg base "ties_are_shared" 1 (aI K d))(I:BE d)(J:aY P w K mg base "corners_close" 3 (aI K e))(L:CJ e)(M:aY P w K mg base "wall_has_row" 2 (aI K g))(N:Gn g)(O:aY P w K mg base "all_reached" 2 (aI K i))(Q:Fw i)(R:aY P w K mg base "threes_of" 2 (aI K j))(S:uU j)(U:aY P w K mg base "ties_of" 1 (aI K l))(V:Br l)(F:bz K "must_web" "must_web" Bc f m):∃fn,br P w K mg base bj 4 f m ["web"] (aI K fn)/\xi fn:=by
 refine' cI F Eu ρ ?W ?B
 case W=>have nd:=Eu.nd;have hl:uo "rings":=⟨trivial⟩;walk_at "h"
 intro web h hw;have X:(cK web).length=web.length:=bt ..;obtain⟨_,Y,ds,rfl,hd⟩:=V web h;refine' Qw ρ ?w;apply fI (wM (af ρ ao)<|D web h) ρ;refine' aj<|aH (r:=.D<|aG web) (Z1:=[.D (.L<|web.map pairD),.no]) ?a ρ<|aq ?b
 case a=>unfold oV;rw[aO (af ρ ao) (xm h.nd)];rfl
 refine fI (wM (af ρ ao) (I web h λp o q t z=>?_)) ρ ?_
 ·have u:=hw.C.sym p.1 (bg.2 ⟨p,o,ρ⟩) q.1<|bg.2 ⟨q,t,ρ⟩;rw[cM h.nd o,cM h.nd t] at u;exact u z
 refine fI (wM (af ρ ao)<|L web h hw) ρ ?_;refine' fI (mG<|fq (ai (qd (enc:=Dat.str) (xs:=bu) (λn=>[.no,.D<|.str n,.D<|aG web]) (RV ρ) ρ ?c1 ?c2 ?c3 ?c4) ρ) ρ) ρ ?c5
 case c1=>show 4<=dk;unfold dk;lia
 case c2=>intro y hy Z hd;rcases hd with rfl|⟨z,rfl⟩<;>rfl
 case c3=>intro n v;obtain⟨k,hk,rfl⟩:=kI v;exact ai (aO (af ρ<|af ρ ao)<|N web k hk h hw) ρ
 case c4=>intro n v;rfl
 show WS _ [.D (.L<|web.map pairD),.D<|aG web] _;refine fI (wM (af ρ ao)<|Q web h hw) ρ ?_;refine' fI (bM<|au (ai (aO (af (ai (aO (af ρ ao)<|S web h hw) ρ) ao) ρ) ρ) (ai (au (r:=.D<|.int<|(ds.length:Int)-web.length+1) (ai (au (ai (aO (af (ai (aO (af ρ ao) Y) ρ) ao) ρ) ρ) (fH ρ<|congrArg al X)<|yW ρ) ρ) ρ ρ) ρ)<|ne_int _ _) ?d2<|aZ ⟨_,ρ⟩;grind [a9,Pw]
end
local macro_rules | `(tactic| walk_at "1")=>Mq.fs "Uy C"
local macro_rules | `(tactic| walk_at "r14")=>`(tactic| (refine' FE ?n ?x ?a ?b ?c ?d ?e ?f ?g ?h;(case x=>rfl);(case n=>exact rC (by rfl));(case a=>rfl);(case b=>exact m9 (by rfl));(case c=>rfl);(case d=>exact fun _=>rfl);(case e=>walk_at "I");(case f=>(intro _ _ _ _ _;walk_at "G"));(case g=>(intro _ _ _ _ _;walk_at "J"));(case h=>(intro _ _ _ _ _;walk_at "D"))))
local macro_rules | `(tactic| walk_at "0")=>Mq.fs ">r14"
local macro_rules | `(tactic| walk_at "Z")=>Mq.fs "ye Dr"
local macro_rules | `(tactic| walk_at "0")=>Mq.fs "B4 aarrrrnrfIptu|DE.alt&zu rrrarA&zl rrarA&AM rrarA|Jf DD|Ue rarA|Lx rarA"
local macro_rules | `(tactic| walk_at "I")=>Mq.fs "Ol rarrA"
section
variable{P:kH}{w:pe}{K:ft}{mg:e6->Option cA}{base:ph}
def jW(fn:cz):Prop:=∀(p:Int×Int) {m:Int},0<m->m<=100000000000000000000->∃v q,fn (pD p) [.int m]=al (.D<|.int v,pD q)/\0<=v/\v<m
def Kv(T:Txt mg)(F:bz K "_law_draw" "_law_draw" yf f d):∃fn,br P w K mg base bj 1 f d ["_law_purse_here","_law_out_of"] (dy K 0 fn)/\jW fn:=by
 refine' r9 (j:=0) F Fo (n:=1) ρ ?C ?B
 case C=>have nd:=Fo.nd;have lk:pG "_law_purse_here":=⟨trivial⟩;walk_at "h"
 clear T F;rintro⟨a,b⟩ m h h';have c:0<m/\m.natAbs.log2<9000:=⟨h,Pu (by omega)⟩;have hd:mD a m=bi:=by unfold mD;simpa using c
 have hd':mD b m=bi:=by unfold mD;simpa using c
 have hm':=c.1;by_cases g:a=0
 ·subst g;refine'⟨b%m,(b/m,b),xI ?e ?k,Yx _ (by omega),X2 _ h⟩
  case e=>walk_at "v"
  rfl
 refine'⟨a%m,(a/m,b),xI ?D ?G,Yx _ (by omega),X2 _ h⟩
 case D=>walk_at "v"
 rfl
def kn(c:Int):Prop:=sW c<=1048576
def Ky (a:kn i)(b:kn j):fL i j=bi:=by delta kn at a b;delta fL aag;rw[show bd ((sW i:Int)+(sW j:Int)>bitsLine)=bn from decide_eq_false (by unfold bitsLine;omega)];simp
def CH(fn:a8):Prop:=∀(c:Int) (k:Nat),kn c->k<64->∃v:Int,fn [.int c,.int k]=al (.D<|.int v)
theorem PZ(T:Txt mg){f:dn}{a:kq}(F:bz K "_law_mixed" "_law_mixed" xV f a):∃fn,br P w K mg base bj 1 f a ["_law_cell","_law_k"] (aI K fn)/\CH fn:=by
 refine' cI F D1 ρ ?C ?B
 case C=>walk_at "h"
 intro c k b hk;have d1:∀i,mD i 2147483629=bi:=fun i=>by rfl
 have m1:=Ky b b;have m2:∀i,fL 3 i=bi:=fun i=>Av ⋯;have m4:∀i,fL i 48271=bi:=fun i=>uf (by decide);have m5:fL ((c*c+3*c+7919*k+1)*48271%2147483629) ((c*c+3*c+7919*k+1)*48271%2147483629)=bi:=uf (by omega);refine'⟨_,Fi ?e⟩
 case e=>walk_at "v"
def Gw(fn:a8):Prop:=∀a:List Int,a.length<=63->(∀n∈a,kn n)->∃p,fn [.cw a]=al (.O<|pD p)
theorem LM(T:Txt mg)(B:mg "abs"=am){g:a8}(t:aY P w K mg base "_law_mixed" 1 (aI K g))(u:CH g){f:dn}{i:kq}(F:bz K "_law_purse" "_law_purse" x8 f i):∃fn,br P w K mg base bj 2 f i ["_law_script"] (aI K fn)/\Gw fn:=by
 refine' cI F Cy ρ ?B ?C
 case B=>walk_at "h"
 intro a y B;refine' (zi (P:=fun r=>∃p,r=.O (pD p)) ρ ?w).elim fun r ⟨e,p,z⟩=>⟨p,z ▸ e⟩;have I:gZ (.cw a) am (al 63)=al (.O<|.L<|a.map .int):=by show al (Res.O<|.L<|(cutD a am<|al ((63:Nat):Int)).map Dat.int)=_;rw[qL,X7 y]
 have J:iJ (.L<|a.map .int) (.L [.int 0])=al (.O<|.L<|(a++[0]).map .int):=by rw[gf];exact if_pos (by rw[bt,Hz];unfold dk;omega)
 have L:dg (.L<|(a++[0]).map .int)=al (a.length+1):=by simp[dg]
 refine' aj<|aH (au (ai (oK ρ ρ I) ρ) ρ J) ρ<|aq ?_;refine' aj<|aH (v_res ρ) ρ<|aq ?_;have M:∀c∈a++[0],kn c:=fun c N=>by
  rcases ee.1 N with h|h
  ·exact B c h
  rw[n6.1 h];unfold kn;decide +kernel
 refine' aj<|fu (fun k Z=>∃(n:Int) (b:Slot),Fr b/\Z=[.D (.cw a),.O<|.L<|(a++[0]).map .int,.D<|.int n,b]) (by rfl) ⟨1,.no,ι ρ,ρ⟩ ?st ?D
 case st =>
  rintro k x hx _ ⟨n,b,l,rfl⟩;obtain⟨hk,rfl⟩:=ux hx;refine⟨[.D (.cw a),.O<|.L<|(a++[0]).map .int,.D<|.int n,.D<|.int k],by rcases l with rfl|⟨d,rfl⟩<;>rfl,?_⟩;have m:k%(a.length+1)<(a++[0]).length:=by rw[eW];exact Xx _ ⋯
  obtain⟨v,O⟩:=u (a++[0])[k%(a.length+1)] k (M _<|W1 m) (by omega);have o:cp (.L<|(a++[0]).map .int) (.int ((k%(a.length+1):Nat):Int))=al (.int (a++[0])[k%(a.length+1)]):=by exact iY (by rw[c6,cn m];rfl)
  have em:(k:Int)%((a.length+1:Nat):Int)=((k%(a.length+1):Nat):Int):=(Int.natCast_emod ..).symm;rw[<-em] at o;have Q:bd (0<((a.length+1:Nat):Int))=bi:=decide_eq_true (by omega);have mk:fL n 2147483587=bi:=uf (by decide);refine' aj<|aH (Z2:=[.D (.cw a),.O<|.L<|(a++[0]).map .int,.D<|.int<|n*2147483587+v,.D<|.int k]) (au (ai (gB<|au ρ ρ<|if_pos mk) ρ) (ai (aO (af (bc ρ (ai (au ρ (fH ρ L)<|if_pos Q) ρ) ρ o)<|af ρ ao) O) ρ) ρ) ρ<|aq<|aZ ⟨_,_,τ ⟨_,ρ⟩,ρ⟩
 rintro _ ⟨n,b,l,rfl⟩;have R:0<(a++[0]).length:=by simp
 have q:cp (.L<|(a++[0]).map .int) (.int 0)=al (.int (a++[0])[0]):=by rw[iV];exact iY (j:=0) (by rw[c6,cn R];rfl)
 generalize (a++[0])[0]=c0 at q;have ab:cb vw (fO (jr 1<|fun Z=>al (.int 0,Z)) lJ) [.D (.cw a),.O<|.L<|(a++[0]).map .int,.D<|.int n,b]=al (.D<|.int (if c0<0 then -c0 else c0),[.D (.cw a),.O<|.L<|(a++[0]).map .int,.D<|.int n,b]):=aO (af (bc ρ ρ ρ q) ao) ρ;refine' aq<|aj<|fJ (bM<|au (r:=.D<|.bl<|bd<|(10:Int) ^ (18:Int).toNat<=if c0<0 then -c0 else c0) (ai ab ρ) (ai (au ρ ρ ρ) ρ) ρ) ?G ?no
 case G=>intro _;exact aj<|cc (cG (af (ai ab ρ)<|af ρ ao) (show 2<=dk by simp[dk]))<|dS ⟨_,_,ρ,(_,_),ρ⟩
 intro _;exact aZ<|aq<|aj<|cc (by rfl)<|dS ⟨_,_,ρ,(_,_),ρ⟩
noncomputable def ju(st:List Int)(a k j:Nat):Nat:=97+((st.getD j 0+5*(k:Int)*(if j=a then 1 else 0))%26).toNat
def ck(st:List Int)(a k:Nat):Str:=⟨((hB st.length).map (ju st a k)).toArray⟩
def iQ(x:e6):Str:=if dW x then x++iN "x" else x
noncomputable abbrev jc:List Str:=["qaaaaaaa","qbbbbbbb"]
def gO(st:List Int)(a m:Nat):List Str:=(hB m).map fun k=>iQ<|ck st a k
theorem sY(st:List Int)(a k:Nat):(ck st a k).length=st.length:=by show ((hB st.length).map (ju st a k)).toArray.size=_;rw[gs,bt,lT]
theorem EE(st:List Int)(a k:Nat):∀c∈(ck st a k).cps.toList,iu c=bi:=fun c h=>by obtain⟨j,_,rfl⟩:=bg.1 h;exact SQ (Yx _ ⋯)<|X2 _ ⋯
theorem N5{st:List Int}(h0:0<st.length)(h7:st.length<=7)(a k:Nat):dD (iQ<|ck st a k)=bi:=by
 have hl:=sY st a k;have hw:=EE st a k;have fst:∀x:e6,0<x.length->∃c,x.cps.toList[0]?=al c:=fun x hx=>⟨_,cn (show 0<x.cps.toList.length by simp only[qh];exact hx)⟩;delta iQ;split
 ·have ex:(iN "x").cps.toList=[120]:=by decide +kernel
  have e:(ck st a k++iN "x").cps.toList=(ck st a k).cps.toList++[120]:=by simp only[XP,Xd,ex]
  have el:(ck st a k++iN "x").length=st.length+1:=by rw[<-hl];show (ck st a k++iN "x").cps.size=(ck st a k).cps.size+1;rw[<-qh,e,eW,qh];rfl
  obtain⟨c,d⟩:=fst (ck st a k++iN "x") (by omega);refine va.nm ⟨d,fun b f=>?_,?_⟩<|QJ _
  ·rw[e] at f;rcases ee.1 f with z|z
   ·exact hw b z
   rw[n6.1 z];rfl
  show (ck st a k++iN "x").length<=8;omega
 rename_i g;obtain⟨c,d⟩:=fst (ck st a k) (by omega);exact va.nm ⟨d,hw,by rw[qh];show (ck st a k).length<=8;omega⟩ (by simpa using g)
theorem CC{st:List Int}{a i j:Nat}(b:a<st.length)(hi:i<8)(hj:j<8)(h:ck st a i=ck st a j):i=j:=by
 have h:=congrArg (fun x:e6=>x.cps.toList[a]?) h;have e:∀k,(ck st a k).cps.toList[a]?=al (ju st a k a):=fun k=>by show ((hB st.length).map (ju st a k))[a]?=_;rw[c6,Zv b];rfl
 simp only[e] at h;have h:=Option.some.inj h;unfold ju at h;rw[if_pos ρ] at h;omega
theorem vv{st:List Int}{a i j:Nat}(b:a<st.length)(c:i<8)(d:j<8)(h:iQ (ck st a i)=iQ (ck st a j)):i=j:=by
 have l1:=sY st a i;have l2:=sY st a j;have eq:∀x y:e6,(x++iN "x").cps.toList=y.cps.toList->y.length=x.length+1:=fun x y h=>by have:=congrArg List.length h;simp[XP] at this;exact this.symm
 unfold iQ at h;split at h<;>split at h
 ·have h:=congrArg (fun x:e6=>x.cps.toList) h;simp only[XP,Xd] at h;exact CC b c d<|lU<|List.append_cancel_right h
 grind;grind;exact CC b c d h
theorem Pa{st:List Int}(h7:st.length<=7)(a k:Nat):iQ (ck st a k)∉jc:=fun h=>by
 have e:∀x∈jc,x.length=8/\x.cps.toList.getLast?≠al 120:=by decide +kernel
 obtain⟨b,d⟩:=e _ h;unfold iQ at b d;split at b
 ·rename_i c;rw[if_pos c] at d;have ex:(iN "x").cps.toList=[120]:=by decide +kernel
  refine d ?_;simp only[XP,Xd,ex,List.getLast?_append,List.getLast?_singleton,Option.some_or]
 rw[sY] at b;omega
theorem RD{st:List Int}{a m:Nat}(d:a<st.length)(b:st.length<=7)(hm:m<=8):(gO st a m).length=m/\(∀x∈gO st a m,dD x=bi)/\(gO st a m).Nodup/\∀x∈gO st a m,x∉jc:=by
 refine⟨by simp[gO],fun x hx=>?_,?_,fun x hx=>?_⟩
 ·obtain⟨k,_,rfl⟩:=bg.1 hx;exact N5 (by lia) b a k
 ·refine hI.2 (List.nodup_range.imp_of_mem fun {i j} f g c e=>?_);have:=tm.1 f;have:=tm.1 g;exact c<|vv d (by omega) (by omega) e
 obtain⟨k,_,rfl⟩:=bg.1 hx;exact Pa b a k
theorem D9{i j:Int}(h:fL i j=bi):fR fL (fun i j=>.int<|i*j) (.int i) (.int j)=al (.D<|.int<|i*j):=if_pos h
theorem Cz(n:Nat):cN 0 (n:Int)=(hB n).map fun j:Nat=>.int (j:Int):=by simp[cN]
noncomputable def n9(st:List Int)(a k j:Nat):Int:=st.getD j 0+5*(k:Int)*(if j=a then 1 else 0)
theorem Rt(st:List Int)(a k:Nat):YZ (iN "") ((hB st.length).map fun j=>(⟨#[ju st a k j]⟩:e6))=ck st a k:=by apply lU;have:=Iw<|(hB st.length).map (ju st a k);rwa[gk] at this
def Hd(t:Slot)(d:Dat):Prop:=t=.O d\/t=.D d
def Et(fn:cz):Prop:=∀p (m:Nat),m<=8->∃r b,fn (pD p) [.int m]=al (r,b)/\∃(a:List e6) (c:Int×Int),r=.O (.L<|a.map .str)/\b=pD c/\a.length=m/\(∀x∈a,dD x=bi)/\a.Nodup/\∀x∈a,x∉jc
theorem SH(T:Txt mg){fnD:cz}(p1:aY P w K mg base "_law_draw" 1 (dy K 0 fnD))(M:jW fnD){f:dn}{Q:kq}(F:bz K "_law_names" "_law_names" zQ f Q):∃fn,br P w K mg base bj 2 f Q ["_law_purse_here","_law_many"] (dy K 0 fn)/\Et fn:=by
 refine' r9 F CL ρ ?B ?N
 case B=>have nd:=CL.nd;have lk:pG "_law_purse_here":=⟨trivial⟩;walk_at "h"
 intro p m hm;refine' uX ρ ?w;obtain⟨v,R,t0,a0,b0⟩:=M p (m:=7) (by decide) (by decide);refine' aj<|aH (v_res ρ) ρ<|aq ?_;refine' aj<|aH (au ρ (ai (dM ρ (af ρ ao) ρ t0 ρ) ρ) ρ) ρ<|aq ?_;refine' aj<|NK ?_;refine' F8 (fun k z Z=>∃(I:Int×Int) (J:Slot) (cs:List Int),Z=[.no,J,.io<|pD I]/\Fr J/\z=cs.map .int/\cs.length=k) (qz ρ (by omega)) ρ ρ ρ ⟨_,_,[],ρ,ι ρ,ρ,ρ⟩ ?c7 ?c8 ?c9
 case c7=>unfold cN dk;rw[bt,lT];omega
 case c8=>rintro k1 x hx z Z ⟨I,J,cs,rfl,U,rfl,V⟩;refine⟨[.no,.D x,.io<|pD I],by rcases U with rfl|⟨d,rfl⟩<;>rfl,?_⟩;obtain⟨v1,C,t1,_,_⟩:=M I (m:=26) (by decide) (by decide);refine' uL ρ ⟨fun h=>(by cases h),fun _=>T9 (ai (dM ρ (af ρ ao) ρ t1 ρ) ρ) ⟨ρ,C,_,cs++[v1],ρ,τ ⟨_,ρ⟩,by rw[gf];rfl,by rw[eW,V];rfl⟩⟩
 rintro z Z ⟨C,J,st,rfl,-,rfl,L⟩;have L:st.length=(1+v).toNat:=by rw[L];delta cN;rw[bt,lT];lia
 obtain⟨v2,o,W,a2,b2⟩:=M C (m:=1+v) (by omega) (by omega);obtain⟨a,rfl⟩:=Xo a2;have ha:a<st.length:=by omega
 have h7:st.length<=7:=by omega
 have hL:(1+v)=(st.length:Int):=by omega
 rw[hL] at W ⊢;refine⟨pD C,ρ,[.io (pD C),.D<|.int m,.D<|.str "abcdefghijklmnopqrstuvwxyz",.D<|.int st.length,.O<|.L<|st.map .int,.no,.no,.no,.no,.no],ρ,?_⟩;refine' aq<|aj<|aH (Z2:=[.io (pD o),.D<|.int m,.D<|.str "abcdefghijklmnopqrstuvwxyz",.D<|.int st.length,.O<|.L<|st.map .int,.D<|.int a,.no,.no,.no,.no]) (dM ρ (af ρ ao) ρ W ρ) ρ<|aq ?_;refine' aj<|aH (Z2:=[.io (pD o),.D<|.int m,.D<|.str "abcdefghijklmnopqrstuvwxyz",.D<|.int st.length,.O<|.L<|st.map .int,.D<|.int a,.O<|.L [],.no,.no,.no]) (cG ao<|pd _) ρ<|aq ?_;refine' aj<|fu (fun k Z=>∃(t u q r:Slot),Z=[.io (pD o),.D<|.int m,.D<|.str "abcdefghijklmnopqrstuvwxyz",.D<|.int st.length,t,.D<|.int a,.O<|.L<|(gO st a k).map .str,u,q,r]/\Hd t (.L<|st.map .int)/\Fr u/\(Fr q\/∃d,q=.O d)/\Fr r) (qz ρ (by omega)) ⟨_,_,_,_,ρ,ι ρ,ι ρ,ι<|ι ρ,ι ρ⟩ ?st ?X
 case X =>
  rintro _ ⟨t,u,q,r,rfl,-⟩;have e:(cN 0 (m:Int)).length=m:=by unfold cN;rw[bt,lT];omega
  rw[e];exact aq<|aj<|cc ρ<|dS ⟨_,_,_,ρ,ρ,gO st a m,o,ρ,ρ,RD ha h7 hm⟩
 rintro k x hx _ ⟨t,u,q,r,rfl,h4,f7,f8,f9⟩;obtain⟨hk,rfl⟩:=ux hx;refine⟨[.io (pD o),.D<|.int m,.D<|.str "abcdefghijklmnopqrstuvwxyz",.D<|.int st.length,t,.D<|.int a,.O<|.L<|(gO st a k).map .str,.D<|.int k,q,r],by rcases f7 with rfl|⟨d,rfl⟩<;>rfl,?_⟩;have Y:((gO st a k).map Dat.str).length<sizeLine:=by unfold gO dk;rw[bt,bt,lT];omega
 have es:gO st a (k+1)=gO st a k++[iQ (ck st a k)]:=by unfold gO;rw[Yr,gf];rfl
 rw[es,gf];generalize (gO st a k).map Dat.str=found at *;refine' aj<|aH (Z2:=[.io (pD o),.D<|.int m,.D<|.str "abcdefghijklmnopqrstuvwxyz",.D<|.int st.length,.D<|.L<|st.map .int,.D<|.int a,.O<|.L found,.D<|.int k,.O<|.L ((hB st.length).map fun j=>.int<|n9 st a k j),r]) (gS (enc:=fun j:Nat=>.int (j:Int)) (xs:=hB st.length) (fun j=>[.no,.D<|.int j,.D<|.int a,.D<|.int k,.D<|.L<|st.map .int]) (fun j=>.int<|n9 st a k j) ?d1 ?d2 ?d3 ?d4 ?d5 ?d6) ?d7<|aq ?d8
 case d1=>rw[<-Cz];exact qz ρ (by omega)
 case d2=>rcases h4 with rfl|rfl<;>rfl
 case d3=>rw[lT];unfold dk;omega
 case d4=>rintro j _ Z (rfl|⟨y,rfl⟩)<;>rfl
 case d5 =>
  intro j D;have D:=tm.1 D;have ix:cp (.L<|st.map .int) (.int (j:Int))=al (.int<|st.getD j 0):=by rw[iV];exact iY (by rw[c6,cn D,gm,cn D];rfl)
  have ei:rM [.bl (bd<|(j:Int)=(a:Int))]=al (.D<|.int (if j=a then 1 else 0)):=by
   by_cases e:j=a
   ·rw[if_pos e,decide_eq_true (by omega)];rfl
   rw[if_neg e,decide_eq_false (by omega)];rfl
  have m5:fL 5 (k:Int)=bi:=Av (by decide);have m6:fL (5*(k:Int)) (if j=a then 1 else 0)=bi:=uf (by split<;>decide);exact ai (au (bc ρ ρ ρ ix) (ai (gB<|au (ai (gB<|au ρ ρ<|D9 m5) ρ) (ai (aO (af (ai (au ρ ρ<|eq_int _ _) ρ) ao) ei) ρ)<|D9 m6) ρ) ρ) ρ
 case d6=>exact fun _ _=>rfl
 case d7=>rcases f8 with (rfl|⟨d,rfl⟩)|⟨d,rfl⟩<;>rfl
 have O:∀l:List Nat,(l.map fun j=>(⟨#[ju st a k j]⟩:e6).length).sum=l.length:=fun l=>by
  induction l with
  | nil=>rfl
  | cons c l ih=>rw[iW,YR,ih,gi];exact aa6 _ _
 have ej:=Ny (sep:=iN "") (ai (gS (enc:=fun j:Nat=>Dat.int<|n9 st a k j) (xs:=hB st.length) (fun j=>[.no,.D<|.int<|n9 st a k j,.D<|.str "abcdefghijklmnopqrstuvwxyz"]) (fun j=>.str ⟨#[ju st a k j]⟩) (fi:=alt (jI<|cf 8)<|jY<|cf 8) (caps:=[am,am,al 2]) (g:=vQ 1) (fe:=jr 2<|ij<|bW (fR (fun _ j=>bd<|0<j) fun i j=>Dat.int<|i%j) (cf 1)<|fC<|.int 26) (Z:=[.io (pD o),.D<|.int m,.D<|.str "abcdefghijklmnopqrstuvwxyz",.D<|.int st.length,.D<|.L<|st.map .int,.D<|.int a,.O<|.L found,.D<|.int k,.O<|.L ((hB st.length).map fun j=>.int<|n9 st a k j),r]) (da ρ) ρ (by rw[lT];unfold dk;omega) (by rintro j _ Z (rfl|⟨y,rfl⟩)<;>rfl) (fun j D=>bc ρ (ai (au ρ ρ ρ) ρ) ρ<|LI (Yx _ (by decide))<|X2 _ (by decide))<|fun _ _=>rfl) ρ) (Ce (fun j=>(⟨#[ju st a k j]⟩:e6))<|hB st.length) ⟨by decide +kernel,by rw[gk,bt,lT];have:=O<|hB st.length;rw[lT] at this;show ((hB st.length).map fun j=>(⟨#[ju st a k j]⟩:e6).length).sum+_<=_;omega⟩;rw[Rt] at ej;refine' aj<|aH (Z2:=[.io (pD o),.D<|.int m,.D<|.str "abcdefghijklmnopqrstuvwxyz",.D<|.int st.length,.D<|.L<|st.map .int,.D<|.int a,.O<|.L found,.D<|.int k,.D<|.L ((hB st.length).map fun j=>.int<|n9 st a k j),.D<|.str<|ck st a k]) (v_res ej) ?g1<|aq ?g2
 case g1=>rcases f9 with rfl|⟨d,rfl⟩<;>rfl
 have wl:=sY st a k;have tx:u3 (ck st a k)=bi:=GW (by rw[Zz];intro c hc;have:=EE st a k c<|aa8.2 hc;unfold iu at this;rw[gj,decide_eq_true_eq,decide_eq_true_eq] at this;simp;omega)
 have iw:dU false (.str<|ck st a k) (.L [.str "north",.str "east",.str "south",.str "west"])=al (.D<|.bl<|dW<|ck st a k):=TU tx false;have UB:iJ (.str<|ck st a k) (.str<|iN "x")=al (.D<|.str<|ck st a k++iN "x"):=EY (by rw[wl,show (iN "x").length=1 from by decide +kernel];unfold dk;omega);generalize (hB st.length).map (fun j=>Dat.int<|n9 st a k j)=S;have G:∀y,y=iQ (ck st a k)->∃t u q r,[.io (pD o),.D<|.int m,.D<|.str "abcdefghijklmnopqrstuvwxyz",.D<|.int st.length,.D<|.L<|st.map .int,.D<|.int a,.O<|.L<|found++[.str y],.D<|.int k,.D<|.L S,.D<|.str y]=[.io (pD o),.D<|.int m,.D<|.str "abcdefghijklmnopqrstuvwxyz",.D<|.int st.length,t,.D<|.int a,.O<|.L<|found++[iQ (ck st a k)].map .str,u,q,r]/\Hd t (.L<|st.map .int)/\Fr u/\(Fr q\/∃d,q=.O d)/\Fr r:=fun y e=>e ▸ ⟨_,_,_,_,ρ,τ ρ,τ ⟨_,ρ⟩,ι<|τ ⟨_,ρ⟩,τ ⟨_,ρ⟩⟩;have nx:iQ (ck st a k)=if dW (ck st a k) then ck st a k++iN "x" else ck st a k:=ρ;generalize ck st a k=x at *;refine' aj<|fJ (b:=dW x) (bM<|au ρ (ai (cG (af ρ<|af ρ<|af ρ<|af ρ ao) (show 4<=dk by unfold dk;decide)) ρ) iw) ?yes ?no
 case yes=>intro B;rw[B] at nx;exact aj<|aH (au ρ ρ UB) ρ<|aq<|aZ<|aq<|aj<|nT (mV ρ ρ Y)<|aq<|aZ<|G _ nx.symm
 intro B;rw[B] at nx;exact aZ<|aq<|aj<|nT (mV ρ ρ Y)<|aq<|aZ<|G _ nx.symm
structure Gd (o:Ob) (rs:Fl):Prop where
 c:Cuts o (rs.map (·.2))
 f:eI (rs.map (·.2))
def Bd(o:Ob):Prop:=o.l=0/\o.b=0/\0<o.r/\o.r<=999/\0<o.t/\o.t<=999
theorem RJ(v:Int)(ys:List Int):dU false (.int v) (.L<|ys.map .int)=al (.D<|.bl<|bd<|v∈ys):=by
 have a:bJ (.L<|ys.map .int)=bi:=mR (by show (ys.map Dat.int).all g8=bi;rw[mA];intro d hd;obtain⟨y,_,rfl⟩:=bg.1 hd;rfl)
 show (if (bJ (.int v)&&bJ (.L<|ys.map .int))=bi then al (Res.D<|.bl<|inD (.int v)<|ys.map .int) else am)=_;rw[lZ,a];have e:inD (.int v) (ys.map .int)=bd (v∈ys):=by
  rw[p7,Y7,t8,n4,decide_eq_true_eq];constructor
  ·rintro⟨y,hy,e⟩;have e:=e;simp_all [mZ]
  exact fun h=>⟨v,h,(mZ v v).trans (decide_eq_true ρ)⟩
 rw[e];rfl
theorem D3{Q:Out->Prop}{Ls:List Int}{f:Bool->Int->DS}{c:BF}{fb:SF}(g:∀b v,c (f b v)=al (bd<|v∈Ls,f false v))(i:∀v,fb (f false v)=al (.next<|f false<|v+1)):∀(n:Nat) (b:Bool) (v:Int),(Ls.filter<|fun x=>bd<|v<=x).length<n->(∀a,v<=a->a∉Ls->Q (.next<|f false a))->WS (g9 c fb n) (f b v) Q
 | 0,_,_,h,_=>absurd h (Yw _)
 | n+1,b,v,h,q=>by
  have e:=g b v;by_cases d:v∈Ls
  ·rw[decide_eq_true d] at e;refine DH e (i v) (D3 g i n false (v+1) ?_ fun a h1 j=>q a (by omega) j);have k:Ls.filter (fun x=>bd<|v+1<=x)=(Ls.filter fun x=>bd<|v<=x).filter fun x=>bd (v+1<=x):=by
    rw[ZG];refine W' fun x _=>?_;by_cases h:v+1<=x
    ·rw[decide_eq_true h,decide_eq_true (by omega:v<=x)];rfl
    rw[decide_eq_false h];rfl
   have:=List.length_filter_lt_length_iff_exists (l:=Ls.filter fun x=>bd<|v<=x) (p:=fun x=>bd<|v+1<=x) |>.mpr ⟨v,f'.2 ⟨d,decide_eq_true<|ac8 v⟩,by simp;lia⟩;rw[k];omega
  rw[decide_eq_false d] at e;exact DZ e<|q v (ac8 v) d
def co(k:Nat)(o:Ob):Int:=if k=1 then o.l else if k=2 then o.b else if k=3 then o.r else o.t
def mj(k:Nat)(c:Int)(o:Ob):Ob:=if k=1 then ⟨o.l,o.b,c,o.t⟩ else ⟨o.l,o.b,o.r,c⟩
def oW(k:Nat)(c:Int)(o:Ob):Ob:=if k=1 then ⟨c,o.b,o.r,o.t⟩ else ⟨o.l,c,o.r,o.t⟩
theorem ny(x:e6×Ob){k:Nat}(a:k=1\/k=2\/k=3\/k=4):cp (aJ x) (.int (k:Int))=al (.int<|co k x.2):=by rcases a with rfl|rfl|rfl|rfl<;>rfl
theorem Gd.cut{o:Ob}{A B:Fl}{x:e6×Ob}(g:Gd o (A++x::B)){k:Nat}(j:k=1\/k=2){c:Int}(l:co k x.2<c)(m:c<co (k+2) x.2)(e:∀y∈A++x::B,co k y.2≠c/\co (k+2) y.2≠c)(nm:e6):Gd o (A++[(x.1,mj k c x.2)]++B++[(nm,oW k c x.2)]):=by
 obtain⟨f,i⟩:=g;rw[gf,iW] at f i;have ok:x.2.ok:=by have:=f.aK x.2 (by simp);exact⟨this.2.1,this.2.2.2.2.1⟩
 have ex:(A.map (·.2)++x.2::B.map (·.2))[A.length]?=al x.2:=by rw[hE (by simp),bt,Zb];rfl
 have sp:∀d,Cuts x.2 d->Cuts o (A.map (·.2)++d++B.map (·.2)):=fun d h=>by have:=f.LL ex h;simp_all [List.drop_append,List.drop_of_length_le]
 have pm:∀a b:Ob,(A.map (·.2)++[a]++B.map (·.2)++[b]).Perm (A.map (·.2)++[a,b]++B.map (·.2)):=by simp[List.Perm.append_left]
 constructor
 ·rw[gf,gf,gf];refine (sp [mj k c x.2,oW k c x.2] ?_).perm (pm _ _);rcases j with rfl|rfl
  ·exact Cuts.on ok l m
  exact Cuts.up ok l m
 rw[gf,gf,gf];have e:∀z∈A.map (·.2)++x.2::B.map (·.2),co k z≠c/\co (k+2) z≠c:=fun z n=>by rw[<-iW,<-gf] at n;obtain⟨y,p,rfl⟩:=bg.1 n;exact e y p
 rcases j with rfl|rfl
 ·exact i.OP ok e
 exact i.Ja ok e
def GQ(fn:cz):Prop:=∀(p:Int×Int) (rs:Fl) (nm:e6) (o:Ob),Bd o->Gd o rs->0<rs.length->rs.length<8->∃r b,fn (pD p) [aX rs,.str nm]=al (r,b)/\∃(a:Fl) (c:Int×Int),r.val=aX a/\b=pD c/\Gd o a/\(a=rs\/(a.map (·.1)).Perm (nm::rs.map (·.1)))
theorem Pb(T:Txt mg){fnD:cz}(p1:aY P w K mg base "_law_draw" 1 (dy K 0 fnD))(L:jW fnD){f:dn}{S:kq}(F:bz K "_law_cut" "_law_cut" Al f S):∃fn,br P w K mg base bj 2 f S ["_law_purse_here","_law_rows","_law_name"] (dy K 0 fn)/\GQ fn:=by
 refine' r9 F DC ρ ?M ?N
 case M=>have lk:pG "_law_purse_here":=⟨trivial⟩;walk_at "h"
 intro p rs nm o M g h0 h8;refine' uX ρ ?w;have ln:dg (aX rs)=al rs.length:=by simp[aX,dg]
 obtain⟨v0,U,t0,a0,b0⟩:=L p (m:=(rs.length:Int)) (by omega) ⋯;obtain⟨at_,rfl⟩:=Xo a0;have V:at_<rs.length:=⋯;refine' aj<|aH (dM ρ (af (fH ρ ln) ao) ρ t0 ρ) ρ<|aq ?_;obtain⟨O,u,W,X,b1⟩:=L U (m:=2) ⋯ (by decide);obtain⟨k,i,ek⟩:∃k:Nat,(k=1\/k=2)/\1+O=(k:Int):=⟨(1+O).toNat,by omega,by omega⟩;refine' aj<|aH (au ρ (ai (dM ρ (af ρ ao) ρ W ρ) ρ) (by show al (Res.D<|.int<|1+O)=_;rw[ek])) ρ<|aq ?_;obtain⟨x,ex⟩:∃x,rs[at_]?=al x:=⟨_,cn V⟩;have hx:=eH ex;have ir:cp (aX rs) (.int (at_:Int))=al (aJ x):=by show di (rs.map aJ) at_=_;exact iY (by rw[c6,ex];rfl)
 refine' aj<|aH (Z2:=[.io (pD u),.D<|aX rs,.D<|.str nm,.D<|.int at_,.D<|.int k,.D<|aJ x,.no,.no,.no,.no]) (v_res<|bc ρ ρ ρ ir) ρ<|aq ?_;have G:∀y,cp (aJ y) (.int (k:Int))=al (.int<|co k y.2):=fun y=>ny y (by omega);have I:∀y,cp (aJ y) (.int<|(k:Int)+2)=al (.int<|co (k+2) y.2):=fun y=>ny y (k:=k+2) (by omega);have bx:∀y∈rs,0<=co k y.2/\co k y.2<co (k+2) y.2/\co (k+2) y.2<=999:=fun y B=>by
  have:=g.c.aK y.2<|bg.2 ⟨y,B,ρ⟩;unfold Bd at M;rcases i with rfl|rfl
  ·show 0<=y.2.l/\y.2.l<y.2.r/\y.2.r<=999;omega
  show 0<=y.2.b/\y.2.b<y.2.t/\y.2.t<=999;omega
 have hxb:=bx x hx;have gp:∀(q:Int×Int),∃(h:Fl) (p':Int×Int),(Res.D<|aX rs).val=aX h/\pD q=pD p'/\Gd o h/\(h=rs\/(h.map (·.1)).Perm (nm::rs.map (·.1))):=fun q=>⟨rs,q,ρ,ρ,g,ι ρ⟩;refine' aj<|fJ (bM<|au (r:=.D<|.bl<|bd<|co (k+2) x.2-co k x.2<2) (ai (au (bc ρ (ai (au ρ ρ ρ) ρ) ρ<|I x) (bc ρ ρ ρ<|G x) ρ) ρ) ρ ρ) ?Y ?no
 case Y=>exact fun _=>aj<|cc ρ<|dS ⟨_,_,_,ρ,ρ,gp u⟩
 intro hn;have hn:¬co (k+2) x.2-co k x.2<2:=by simpa using hn
 refine' aZ<|aq ?_;have sz:rs.length<=sizeLine:=by unfold dk;omega
 refine' aj<|aH (Z2:=[.io (pD u),.D<|aX rs,.D<|.str nm,.D<|.int at_,.D<|.int k,.D<|aJ x,.O<|.L<|(rs.map (fun y=>co k y.2)++rs.map (fun y=>co (k+2) y.2)).map .int,.no,.no,.no]) (au (r:=.O<|.L<|(rs.map (fun y=>co k y.2)++rs.map (fun y=>co (k+2) y.2)).map .int) (ai (gS (enc:=aJ) (xs:=rs) (fun y=>[.no,.D<|aJ y,.D<|.int k]) (fun y=>.int<|co k y.2) (da ρ) ρ sz (by rintro y _ Z (rfl|⟨z,rfl⟩)<;>rfl) (fun y _=>bc ρ ρ ρ<|G y)<|fun _ _=>rfl) ρ) (ai (gS (enc:=aJ) (xs:=rs) (fun y=>[.no,.D<|aJ y,.D<|.int k]) (fun y=>.int<|co (k+2) y.2) (da ρ) ρ sz (by rintro y _ Z (rfl|⟨z,rfl⟩)<;>rfl) (fun y _=>bc ρ (ai (au ρ ρ ρ) ρ) ρ<|I y)<|fun _ _=>rfl) ρ) ?add) ρ<|aq ?_
 case add=>rw[gf,gk,gk];exact if_pos (by rw[bt,bt];unfold dk;omega)
 generalize hL:rs.map (fun y=>co k y.2)++rs.map (fun y=>co (k+2) y.2)=Ls;have UC:Ls.length<1000:=by rw[<-hL,eW,bt,bt];omega
 obtain⟨v2,d,t2,a2,b2⟩:=L u (m:=co (k+2) x.2-co k x.2-1) (by omega) (by omega);refine' aj<|aH (Z2:=[.io (pD d),.D<|aX rs,.D<|.str nm,.D<|.int at_,.D<|.int k,.D<|aJ x,.O<|.L<|Ls.map .int,.D<|.int<|co k x.2+1+v2,.no,.no]) (au (ai (au (bc ρ ρ ρ<|G x) ρ ρ) ρ) (ai (dM ρ (af (ai (au (ai (au (bc ρ (ai (au ρ ρ ρ) ρ) ρ<|I x) (bc ρ ρ ρ<|G x) ρ) ρ) ρ ρ) ρ) ao) ρ t2 ρ) ρ) ρ) ρ<|aq ?_;refine' aj<|D3 (Ls:=Ls) (f:=fun b v=>[.io (pD d),.D<|aX rs,.D<|.str nm,.D<|.int at_,.D<|.int k,.D<|aJ x,(if b then .O (.L<|Ls.map .int) else .D (.L<|Ls.map .int)),.D<|.int v,.no,.no]) ?w1 ?w2 sJ true _ ?w3 ?w4
 case w1=>exact fun b v=>by cases b<;>exact bM<|au ρ ρ<|RJ v Ls
 case w2=>exact fun v=>rfl
 case w3=>exact X1 (qe _ _) UC
 intro c hc C;show AQ _ _ (.next [.io (pD d),.D<|aX rs,.D<|.str nm,.D<|.int at_,.D<|.int k,.D<|aJ x,.D<|.L<|Ls.map .int,.D<|.int c,.no,.no]);refine' aq<|aj<|fJ (bM<|au (r:=.D<|.bl<|bd<|co (k+2) x.2<=c) ρ (bc ρ (ai (au ρ ρ ρ) ρ) ρ<|I x) ρ) ?y2 ?Q
 case y2=>exact fun _=>aj<|cc ρ<|dS ⟨_,_,_,ρ,ρ,gp d⟩
 intro J;have J:¬co (k+2) x.2<=c:=by simpa using J
 refine' aZ<|aq ?_;have n1:∀l:List Dat,l.length=5->fZ l.length ((k:Int)+2)=al (k+2):=fun l hl=>by rw[hl];rcases i with rfl|rfl<;>rfl
 have Q:∀l:List Dat,l.length=5->fZ l.length (k:Int)=al k:=fun l hl=>by rw[hl];rcases i with rfl|rfl<;>rfl
 have n0:∀l:List Dat,l.length=5->fZ l.length 0=al 0:=fun l hl=>by rw[hl];rfl
 obtain⟨ds,D⟩:∃ds,ds=[Dat.str x.1,.int x.2.l,.int x.2.b,.int x.2.r,.int x.2.t]:=⟨_,ρ⟩;have er:aJ x=.U ds:=by rw[D];rfl
 have R:ds.length=5:=by rw[D];rfl
 have eL:Dat.U (ds.set (k+2)<|.int c)=aJ (x.1,mj k c x.2):=by rw[D];rcases i with rfl|rfl<;>rfl
 have eU:Dat.U ((ds.set 0<|.str nm).set k (.int c))=aJ (nm,oW k c x.2):=by rw[D];rcases i with rfl|rfl<;>rfl
 clear D;rw[er];refine' aj<|aH (Z2:=[.io (pD d),.D<|aX rs,.D<|.str nm,.D<|.int at_,.D<|.int k,.D<|.U ds,.D<|.L<|Ls.map .int,.D<|.int c,.O<|.L ds,.no]) (aO (af ρ ao) ρ) ρ<|aq ?_;refine' aj ⟨_,gB<|vD (Z3:=[.io (pD d),.D<|aX rs,.D<|.str nm,.D<|.int at_,.D<|.int k,.D<|.U ds,.D<|.L<|Ls.map .int,.D<|.int c,.O<|.L<|ds.set (k+2)<|.int c,.no]) ρ ρ (ai (au ρ ρ ρ) ρ) ρ (n1 ds R) ρ,aq ?_⟩;refine' aj<|aH (Z2:=[.io (pD d),.D<|aX rs,.D<|.str nm,.D<|.int at_,.D<|.int k,.D<|.U ds,.D<|.L<|Ls.map .int,.D<|.int c,.O<|.L<|ds.set (k+2)<|.int c,.O<|.L ds]) (aO (af ρ ao) ρ) ρ<|aq ?_;refine' aj ⟨_,gB<|vD (Z3:=[.io (pD d),.D<|aX rs,.D<|.str nm,.D<|.int at_,.D<|.int k,.D<|.U ds,.D<|.L<|Ls.map .int,.D<|.int c,.O<|.L<|ds.set (k+2)<|.int c,.O<|.L<|ds.set 0<|.str nm]) ρ ρ ρ ρ (n0 ds R) ρ,aq ?_⟩;refine' aj ⟨_,gB<|vD (Z3:=[.io (pD d),.D<|aX rs,.D<|.str nm,.D<|.int at_,.D<|.int k,.D<|.U ds,.D<|.L<|Ls.map .int,.D<|.int c,.O<|.L<|ds.set (k+2)<|.int c,.O<|.L<|(ds.set 0<|.str nm).set k (.int c)]) ρ ρ ρ ρ (Q _ (by rw[nL];exact R)) ρ,aq ?_⟩;have UG:gZ (aX rs) am (al (at_:Int))=al (.O<|.L<|(rs.take at_).map aJ):=by show al (Res.O<|.L<|cutD (rs.map aJ) am<|al (at_:Int))=_;rw[qL,Yl]
 have UH:gZ (aX rs) (al<|(at_:Int)+1) am=al (.O<|.L<|(rs.drop<|at_+1).map aJ):=by show al (Res.O<|.L<|cutD (rs.map aJ) (al ((at_+1:Nat):Int)) am)=_;rw[tY,Ym]
 have ad:∀(a b:Fl),a.length<=20->b.length<=20->iJ (.L<|a.map aJ) (.L<|b.map aJ)=al (.O<|.L<|(a++b).map aJ):=fun a b h1 h2=>by rw[gf];exact if_pos (by rw[bt,bt];unfold dk;omega)
 have W:(rs.take at_).length<=8:=by rw[hY];omega
 have t2:(rs.drop<|at_+1).length<=8:=by rw[nS];omega
 have s1:1<=sizeLine:=by unfold dk;decide
 have cL:qG [.L (ds.set (k+2)<|.int c)]=al (.D<|aJ (x.1,mj k c x.2)):=by rw[<-eL];rfl
 have cU:qG [.L ((ds.set 0<|.str nm).set k (.int c))]=al (.D<|aJ (nm,oW k c x.2)):=by rw[<-eU];rfl
 have X:=ad (rs.take at_) [(x.1,mj k c x.2)] (by omega) (by simp);have a2:=ad (rs.take at_++[(x.1,mj k c x.2)]) (rs.drop<|at_+1) (by rw[eW];simp;omega) (by omega);have a3:=ad (rs.take at_++[(x.1,mj k c x.2)]++rs.drop (at_+1)) [(nm,oW k c x.2)] (by rw[eW,eW];simp;omega) (by simp);generalize ds.set (k+2) (.int c)=dl at *;generalize (ds.set 0<|.str nm).set k (.int c)=du at *;refine' aj<|cc (au (ai (au (ai (au (ai (oK ρ ρ UG) ρ) (ai (cG (af (ai (aO (af ρ ao) cL) ρ) ao) s1) ρ) X) ρ) (ai (tQ ρ (ai (au ρ ρ ρ) ρ) UH) ρ) a2) ρ) (ai (cG (af (ai (aO (af ρ ao) cU) ρ) ao) s1) ρ) a3)<|dS ⟨_,_,_,ρ,ρ,rs.take at_++[(x.1,mj k c x.2)]++rs.drop (at_+1)++[(nm,oW k c x.2)],d,ρ,ρ,?_,τ ?_⟩
 ·have e:=xa ex;have g':=g;rw[e] at g';refine g'.cut i (by omega) (by omega) (fun y B=>?_) nm;rw[<-e] at B;rw[<-hL] at C;exact⟨fun z=>C<|ee.2<|ι<|bg.2 ⟨y,B,z⟩,fun z=>C<|ee.2<|τ<|bg.2 ⟨y,B,z⟩⟩
 have e:=xa ex;rw[gf];refine (List.perm_append_singleton nm _).trans (List.Perm.cons nm<|List.Perm.of_eq ?_)
 conv=>rhs;rw[e]
 simp
theorem Gd.top{o:Ob}{rs:Fl}(b:Bd o)(g:Gd o rs):∃z∈rs,z.2.r=o.r/\z.2.t=o.t:=by
 unfold Bd at b;obtain⟨y,a,k1,k2,k3,k4⟩:=filled (W:=o.r.toNat) (H:=o.t.toNat) (x:=o.r-1) (y:=o.t-1) (fun p d=>by
  have:=g.c.aK p d;exact⟨⋯,⋯,by omega,⋯,⋯,by omega⟩) g.c.ap (by
  rw[g.c.ar];delta Ob.fV;rw[b.1,b.2.1,Zf,Zf,Xl (by omega),Xl (by omega)]) (by omega) (by omega) (by omega) (by omega)
 have:=g.c.aK y a;grind
theorem Gd.B1{o:Ob}{rs:Fl}(b:Bd o)(g:Gd o rs):cD rs=o.r/\cC rs=o.t:=by
 obtain⟨z,d,e,f⟩:=g.top b;have i:=fun x hx=>g.c.aK x hx;constructor
 ·refine GV (fun x hx=>?_) (bg.2 ⟨z,d,e⟩);obtain⟨y,a,rfl⟩:=bg.1 hx;exact (i _<|bg.2 ⟨y,a,ρ⟩).2.2.1
 refine GV (fun x hx=>?_) (bg.2 ⟨z,d,f⟩);obtain⟨y,a,rfl⟩:=bg.1 hx;exact (i _<|bg.2 ⟨y,a,ρ⟩).2.2.2.2.2
structure Drawn (rs:Fl):Prop where
 fl:bH rs
 mt:oD rs=bn
 ok:OJ rs
 sm:∀x∈rs,x.2.r<=999/\x.2.t<=999
theorem Gd.drawn{o:Ob}{rs:Fl}(b:Bd o)(g:Gd o rs)(j:rs.length<=8)(a:∀x∈rs,dD x.1=bi)(nd:(rs.map (·.1)).Nodup):Drawn rs:=by
 obtain⟨k,m⟩:=g.B1 b;obtain⟨z,d,_⟩:=g.top b;have i:∀x∈rs,o.l<=x.2.l/\x.2.l<x.2.r/\x.2.r<=o.r/\o.b<=x.2.b/\x.2.b<x.2.t/\x.2.t<=o.t:=fun x hx=>g.c.aK x.2<|bg.2 ⟨x,hx,ρ⟩;have n:=b;unfold Bd at n;refine⟨⟨fun e=>(by rw[e] at d;cases d),j,a,fun x hx=>?_,nd,hI.1 g.c.ap,?_⟩,?_,⟨fun x hx=>rW<|a x hx,fun x hx=>?_,by lia⟩,fun x hx=>?_⟩
 ·have:=i x hx;omega
 ·have:=g.c.ar;rw[gk] at this;delta yD;simp only[k,m,show (fun x:e6×Ob=>x.2.fV)=(Ob.fV ∘ fun x:e6×Ob=>x.2) from ρ,this];delta Ob.fV;simp only[b.1,b.2.1,Zf]
 ·delta oD;rw[decide_eq_false_iff_not];rintro⟨p,_,h⟩;exact absurd (g.f p)<|Nat.not_le.2 h
 ·have:=i x hx;omega
 have:=i x hx;omega
def nh(W:Int)(o:Ob):Ob:=⟨W-o.r,o.b,W-o.l,o.t⟩
theorem Gd.Ak{o:Ob}{rs:Fl}(b:Bd o)(g:Gd o rs):Gd o (rs.map fun y=>(y.1,nh o.r y.2)):=by
 have e:(rs.map fun y=>(y.1,nh o.r y.2)).map (·.2)=(rs.map (·.2)).map (nh o.r):=by rw[gk,gk];rfl
 delta Bd at b;constructor
 ·rw[e];refine⟨fun x hx=>?_,?_,?_⟩
  ·obtain⟨y,a,rfl⟩:=bg.1 hx;have:=g.c.aK y a;dsimp only[nh];omega
  ·refine hI.2 (g.c.ap.imp fun {x y} h=>?_);unfold Apart at h ⊢;dsimp only[nh];lia
  rw[gk,<-g.c.ar];congr 1;refine wm fun x _=>?_
  show (o.r-x.l-(o.r-x.r))*(x.t-x.b)=(x.r-x.l)*(x.t-x.b);congr 1
  lia
 rw[e];exact g.f.Ak o.r
def Gd.one (x:e6)(h:o.ok):Gd o [(x,o)]:=⟨Cuts.one h,eI.one o h⟩
theorem Gd.perm{o:Ob}{rs a:Fl}(g:Gd o rs)(p:a.Perm rs):Gd o a:=⟨g.c.perm<|p.map _,g.f.perm<|p.map _⟩
def zH{a:AF}{Z Z1:DS}{lo n:Int}(h:a Z=al ([.int lo,.int n],Z1))(b:-(2 ^ 62)<=lo/\lo<2 ^ 62/\-(2 ^ 62)<=n/\n<2 ^ 62):sF a Z=al (cN lo n,Z1):=by delta sF;rw[h];exact if_pos b
def AR{lo n:Int}{k:Nat}{x:Dat}(h:(cN lo n)[k]?=al x):lo+(k:Int)<n/\x=.int (lo+k):=by have a:=(cm.1 h).1;unfold cN at a h;rw[c6] at h;rw[bt,lT] at a;rw[Zv a] at h;simp at h;exact⟨⋯,h.symm⟩
theorem Q8 (d:rs≠[])(nd:(rs.map (·.1)).Nodup)(h:rs.length<64):kN [aX rs]=al (.O<|aX<|sE rs):=by
 have e:dH (rs.map aJ)=am:=by
  cases rs with
  | nil=>cases d ρ
  | cons x l=>rfl
 show (match dH (rs.map aJ) with
  | some c=>if c.length<64 then al (Res.O<|.L<|(bp c).map .str) else am
  | none=>oX [.L (rs.map aJ)])=_
 rw[e];show (firstsD<|rs.map aJ).bind _=_;rw[Nv];show (if _ then _ else _)=_;rw[if_pos ⟨nd,by rw[bt];exact h⟩,ME rs aJ λa _ b _=>rfl];rfl
def O'(rs):(sE rs).Perm rs:=gn _ _
def Hj(fn:cz):Prop:=∀p (m:Nat),1<=m->m<=8->∃r a,fn (pD p) [.int m]=al (r,a)/\∃(rs:Fl) (b:Int×Int),r=.O (aX rs)/\a=pD b/\Drawn rs/\rs.length<=m/\∀x∈rs,x.1∉jc
theorem R1(T:Txt mg)(p1:aY P w K mg base "_law_draw" 1 (dy K 0 fnD))(V:jW fnD)(p2:aY P w K mg base "_law_names" 2 (dy K 0 UJ))(s2:Et UJ)(p3:aY P w K mg base "_law_cut" 2 (dy K 0 UK))(s3:GQ UK)(F:bz K "_law_floor" "_law_floor" y6 f fd):∃fn,br P w K mg base bj 3 f fd ["_law_purse_here","_law_most"] (dy K 0 fn)/\Hj fn:=by
 refine' r9 (j:=0) F Eo (n:=1) ρ ?hb ?post
 case hb=>have nd:=Eo.nd;have lk:pG "_law_purse_here":=⟨trivial⟩;walk_at "h"
 clear T F p1 p2 p3;intro p m m1 m8;refine' uX ρ ?w;show WS _ [.io (pD p),.D<|.int m,.no,.no,.no,.no,.no] _;obtain⟨r,c1,e1,a,q1,rfl,rfl,hl,UY,UL,UZ⟩:=s2 p m m8;have U:∀j:Nat,j<m->∃x,a[j]?=al x/\cp (.L<|a.map .str) (.int (j:Int))=al (.str x):=λj hj=>by
  have UM:j<a.length:=by omega
  refine⟨a[j],cn UM,?_⟩;rw[iV];exact iY (by rw[c6,cn UM];rfl)
 refine' aj<|aH (Z2:=[.io (pD q1),.D<|.int m,.O<|.L<|a.map .str,.no,.no,.no,.no]) (dM ρ (af ρ ao) ρ e1 ρ) ρ<|aq ?_;obtain⟨D,w0,i0⟩:=U 0 (by omega);obtain⟨I,q2,t2,a2,b2⟩:=V q1 (m:=400) (by decide) (by decide);obtain⟨J,q3,C,a3,b3⟩:=V q2 (m:=400) (by decide) (by decide);have s1:1<=sizeLine:=by unfold dk;decide
 have M:5<=sizeLine:=by unfold dk;decide
 refine' aj<|aH (Z2:=[.io (pD q3),.D<|.int m,.O<|.L<|a.map .str,.O<|aX [(D,⟨0,0,600+I,600+J⟩)],.no,.no,.no]) (cG (af (gv (af (bc ρ ρ ρ i0)<|af ρ<|af ρ<|af (ai (au ρ (ai (dM ρ (af ρ ao) ρ t2 ρ) ρ) ρ) ρ)<|af (ai (au ρ (ai (dM ρ (af ρ ao) ρ C ρ) ρ) ρ) ρ) ao) M) ao) s1) ρ<|aq ?_;obtain⟨c,q4,t4,a4,b4⟩:=V q3 (m:=(m:Int)) (by omega) (by omega);refine' aj<|aH (Z2:=[.io (pD q4),.D<|.int m,.O<|.L<|a.map .str,.O<|aX [(D,⟨0,0,600+I,600+J⟩)],.D<|.int<|1+c,.no,.no]) (au ρ (ai (dM ρ (af ρ ao) ρ t4 ρ) ρ) ρ) ρ<|aq ?_;have tk:∀{j:Nat}{x:e6},a[j]?=al x->a.take (j+1)=a.take j++[x]:=λ{j x} e=>fS e;refine' aj (WS.mono (Q:=λu=>∃(q:Int×Int) (rs:Fl) (o:Ob),u=.next [.io (pD q),.D<|.int m,.O<|.L<|a.map .str,.O<|aX rs,.D<|.int<|1+c,.no,.no]/\Bd o/\Gd o rs/\rs.map (·.1)=a.take rs.length/\1<=rs.length/\rs.length<=m) ?first ?N)
 case first =>
  have dflt:∀q,∃(W:Int×Int) (rs:Fl) (o:Ob),Out.next [.io (pD q),.D<|.int m,.O<|.L<|a.map .str,.O<|aX [(D,⟨0,0,600+I,600+J⟩)],.D<|.int<|1+c,.no,.no]=.next [.io (pD W),.D<|.int m,.O<|.L<|a.map .str,.O<|aX rs,.D<|.int<|1+c,.no,.no]/\Bd o/\Gd o rs/\rs.map (·.1)=a.take rs.length/\1<=rs.length/\rs.length<=m:=λq=>⟨q,_,⟨0,0,600+I,600+J⟩,ρ,⟨ρ,ρ,show 0<600+I by omega,show 600+I<=999 by omega,show 0<600+J by omega,show 600+J<=999 by omega⟩,Gd.one D ⟨show 0<600+I by omega,show 0<600+J by omega⟩,by have:=tk w0;rw[aaD] at this;exact this.symm,fj _,m1⟩
  obtain⟨v5,q5,v,a5,b5⟩:=V q4 (m:=2) (by decide) (by decide);have g4:dP (bW (fR (λ_ _=>true) λi j=>Dat.bl<|bd<|j<i) (cf 4)<|fC<|.int 4) [.io (pD q4),.D<|.int m,.O<|.L<|a.map .str,.O<|aX [(D,⟨0,0,600+I,600+J⟩)],.D<|.int<|1+c,.no,.no]=al (bd<|4<1+c,_):=bM<|au ρ ρ ρ;refine' AI<|BU<|uL g4 ⟨λh=>?_,λ_=>⟨nofun,λ_=>aZ<|dflt q4⟩⟩;have h:4<1+c:=of_decide_eq_true h;refine' uL (bM<|au (ai (dM ρ (af ρ ao) ρ v ρ) ρ) ρ<|eq_int _ _) ⟨λ_=>?_,λ_=>aZ<|dflt q5⟩;obtain⟨x1,w1,i1⟩:=U 1 (by omega);obtain⟨x2,w2,i2⟩:=U 2 (by omega);obtain⟨x3,w3,i3⟩:=U 3 (by omega);obtain⟨x4,w4,i4⟩:=U 4 (by omega);have s3:3<=sizeLine:=by unfold dk;decide
  have s2:2<=sizeLine:=by unfold dk;decide
  refine' aj<|aH (Z2:=[.io (pD q5),.D<|.int m,.O<|.L<|a.map .str,.O<|aX [(D,⟨0,0,200,100⟩),(x1,⟨200,0,300,200⟩),(x2,⟨100,200,300,300⟩)],.D<|.int<|1+c,.no,.no]) (cG (af (gv (af (bc ρ ρ ρ i0) ρ) M)<|af (gv (af (bc ρ ρ ρ i1) ρ) M)<|af (gv (af (bc ρ ρ ρ i2) ρ) M) ao) s3) ρ<|aq ?_;refine' aj<|aH (Z2:=[.io (pD q5),.D<|.int m,.O<|.L<|a.map .str,.O<|aX [(D,⟨0,0,200,100⟩),(x1,⟨200,0,300,200⟩),(x2,⟨100,200,300,300⟩),(x3,⟨0,100,100,300⟩),(x4,⟨100,100,200,200⟩)],.D<|.int<|1+c,.no,.no]) (au ρ (ai (cG (af (gv (af (bc ρ ρ ρ i3) ρ) M)<|af (gv (af (bc ρ ρ ρ i4) ρ) M) ao) s2) ρ) ρ) ρ<|aq<|aZ ?_;refine⟨q5,_,⟨0,0,300,300⟩,ρ,⟨ρ,ρ,by decide,by decide,by decide,by decide⟩,(λa b c d e=>by
    refine⟨Cuts.Mn,λp=>?_⟩;have key:∀q∈dQ [⟨0,0,200,100⟩,⟨200,0,300,200⟩,⟨100,200,300,300⟩,⟨0,100,100,300⟩,⟨100,100,200,200⟩],(dQ [⟨0,0,200,100⟩,⟨200,0,300,200⟩,⟨100,200,300,300⟩,⟨0,100,100,300⟩,⟨100,100,200,200⟩]).count q<=3:=by decide +kernel
    by_cases h:p∈dQ [⟨0,0,200,100⟩,⟨200,0,300,200⟩,⟨100,200,300,300⟩,⟨0,100,100,300⟩,⟨100,100,200,200⟩]
    ·exact key p h
    show (dQ [⟨0,0,200,100⟩,⟨200,0,300,200⟩,⟨100,200,300,300⟩,⟨0,100,100,300⟩,⟨100,100,200,200⟩]).count p<=3;rw[ZH.2 h]
    lia) D x1 x2 x3 x4,?_,by simp,by simp;omega⟩
  show [D,x1,x2,x3,x4]=a.take 5;rw[tk w4,tk w3,tk w2,tk w1,tk w0];rfl
 case N =>
  rintro _ ⟨q,b,o,rfl,bo,g0,en,l1,lm⟩;refine' aq ?_;have ln:dg (aX b)=al b.length:=by simp[aX,dg]
  refine' aj (fu (λk Z=>∃(q:Int×Int) (rs:Fl) (C v:Slot),Z=[.io (pD q),.D<|.int m,.O<|.L<|a.map .str,C,.D<|.int<|1+c,v,.no]/\Hd C (aX rs)/\Fr v/\Gd o rs/\1<=rs.length/\rs.length<=b.length+k/\(rs.map (·.1)).Nodup/\∀y∈rs.map (·.1),y∈a.take (b.length+k)) (zH (af (fH ρ ln)<|af ρ ao) ⟨by omega,by omega,by omega,by omega⟩) ⟨q,b,_,_,ρ,ι ρ,ι ρ,g0,l1,fj _,by rw[en];exact nE (ZR _ _) UL,λy G=>by rw[en] at G;exact G⟩ ?st ?fin)
  case st =>
   rintro k x hx _ ⟨q,rs,C,v,rfl,h3,f5,g,X,UN,Y,B⟩;obtain⟨hk,rfl⟩:=AR hx;obtain⟨x,wx,ix⟩:=U (b.length+k) (by omega);have ix:cp (.L<|a.map .str) (.int<|(b.length:Int)+k)=al (.str x):=ix;refine⟨[.io (pD q),.D<|.int m,.O<|.L<|a.map .str,C,.D<|.int<|1+c,.D<|.int<|(b.length:Int)+k,.no],by rcases f5 with rfl|⟨d,rfl⟩<;>rfl,?_⟩;obtain⟨r,c1,ec,l,W,er,rfl,g',S⟩:=s3 q rs x o bo g X (by omega);have f3:cf 3 [.io (pD q),.D<|.int m,.O<|.L<|a.map .str,C,.D<|.int<|1+c,.D<|.int<|(b.length:Int)+k,.no]=al (aX rs,[.io (pD q),.D<|.int m,.O<|.L<|a.map .str,.D<|aX rs,.D<|.int<|1+c,.D<|.int<|(b.length:Int)+k,.no]):=by rcases h3 with rfl|rfl<;>rfl
   have tw:=tk wx;have nx:x∉a.take (b.length+k):=λz=>by have:=nE (ZR (b.length+k+1) a) UL;rw[tw,Yo] at this;exact this.2.2 x z x (by simp) ρ
   have key:∃t,mF 3 r [.io (pD W),.D<|.int m,.O<|.L<|a.map .str,.D<|aX rs,.D<|.int<|1+c,.D<|.int<|(b.length:Int)+k,.no]=al [.io (pD W),.D<|.int m,.O<|.L<|a.map .str,t,.D<|.int<|1+c,.D<|.int<|(b.length:Int)+k,.no]/\Hd t (aX l):=by
    cases r with
    | D d=>exact⟨_,ρ,τ (by rw[<-er];rfl)⟩
    | O d=>exact⟨_,ρ,ι (by rw[<-er];rfl)⟩
   obtain⟨t,e3,be⟩:=key;refine' aj<|aH (dM ρ (af f3<|af (bc ρ ρ ρ ix) ao) ρ ec ρ) e3<|aq<|aZ ⟨W,l,t,_,ρ,be,τ ⟨_,ρ⟩,g',?_,?_,?_,?_⟩
   ·rcases S with rfl|O
    ·exact X
    have:=O.length_eq;rw[bt,gi] at this;omega
   ·rcases S with rfl|O
    ·omega
    have:=O.length_eq;rw[bt,gi,bt] at this;omega
   ·rcases S with rfl|O
    ·exact Y
    exact O.nodup_iff.2<|lq.2 ⟨λz=>nx<|B x z,Y⟩
   intro y G;show y∈a.take (b.length+k+1);rw[tw,ee];rcases S with rfl|O
   ·exact ι<|B y G
   rcases eS.1 (O.mem_iff.1 G) with rfl|z
   ·exact τ (by simp)
   exact ι<|B y z
  rintro _ ⟨q,rs,C,v,rfl,h3,f5,g,X,UN,Y,B⟩;have hlen:(cN (b.length:Int)<|1+c).length<=8-b.length:=by unfold cN;rw[bt,lT];omega
  have hlen':(cN (b.length:Int)<|1+c).length<=m-b.length:=by unfold cN;rw[bt,lT];omega
  have U7:rs.length<=m:=by omega
  have h8:rs.length<=8:=by omega
  have U8:∀y∈rs.map (·.1),y∉jc:=λy G=>UZ y<|Yp<|B y G;have U9:∀y∈rs.map (·.1),dD y=bi:=λy G=>UY y<|Yp<|B y G;clear B UN;obtain⟨v6,R,t6,a6,b6⟩:=V q (m:=2) (by decide) (by decide);refine' aq (aj (WS.mono (Q:=λu=>∃(l:Fl) (t t6:Slot),u=.next [.io (pD R),.D<|.int m,.O<|.L<|a.map .str,t,.D<|.int<|1+c,v,t6]/\Hd t (aX l)/\Gd o l/\l.map (·.1)=rs.map (·.1)) (fJ (bM<|au (ai (dM ρ (af ρ ao) ρ t6 ρ) ρ) ρ<|eq_int _ _) ?yes ?no) ?N))
  case no=>exact λ_=>aZ ⟨rs,C,_,ρ,h3,g,ρ⟩
  case yes =>
   intro _;have sz:rs.length<=sizeLine:=by unfold dk;omega
   have f3:alt (jI<|cf 3) (jY<|cf 3) [.io (pD R),.D<|.int m,.O<|.L<|a.map .str,C,.D<|.int<|1+c,v,.no]=al (rs.map aJ,[.io (pD R),.D<|.int m,.O<|.L<|a.map .str,.D<|aX rs,.D<|.int<|1+c,v,.no]):=da (by rcases h3 with rfl|rfl<;>rfl);have mx:iC (rs.map λy=>y.2.r)=o.r:=(g.B1 bo).1;have bm:=Sj (λy:e6×Ob=>y.2.r) (cs:=rs) (λe=>by rw[e] at X;simp at X);rw[mx] at bm;refine' aj<|aH (Z2:=[.io (pD R),.D<|.int m,.O<|.L<|a.map .str,.D<|aX rs,.D<|.int<|1+c,v,.D<|.int o.r]) (aO (af (ai (gS (enc:=aJ) (xs:=rs) (λy=>[.no,.D<|aJ y]) (λy=>.int y.2.r) f3 ρ sz ?a1 (λy _=>bc ρ ρ ρ ρ)<|λ_ _=>rfl) ρ) ao) bm) ρ<|aq ?_
   case a1=>rintro y _ Z (rfl|⟨z,rfl⟩)<;>rfl
   refine' aj<|aH (Z2:=[.io (pD R),.D<|.int m,.O<|.L<|a.map .str,.O<|aX (rs.map λy=>(y.1,nh o.r y.2)),.D<|.int<|1+c,v,.D<|.int o.r]) (gS (enc:=aJ) (xs:=rs) (λy=>[.no,.D<|aJ y,.D<|.int o.r]) (λy=>aJ (y.1,nh o.r y.2)) (da ρ) ρ sz ?a2 (λy _=>gv (af (bc ρ ρ ρ ρ)<|af (ai (au ρ (bc ρ ρ ρ ρ) ρ) ρ)<|af (bc ρ ρ ρ ρ)<|af (ai (au ρ (bc ρ ρ ρ ρ) ρ) ρ)<|af (bc ρ ρ ρ ρ) ao) M)<|λ_ _=>rfl) ?a3<|aq<|aZ ⟨_,_,_,ρ,ι ρ,g.Ak bo,?a4⟩
   case a2=>rintro y _ Z (rfl|⟨z,rfl⟩)<;>rfl
   case a3=>unfold aX;rw[gk];rfl
   rw[gk];rfl
  case N =>
   rintro _ ⟨l,t,Va,rfl,be,g',L⟩;have UB:l.length=rs.length:=by have:=congrArg List.length L;rw[bt,bt] at this;exact this
   have pm:=O' l;refine' aq<|aj<|cc (gB<|aO (af (Z1:=[.io (pD R),.D<|.int m,.O<|.L<|a.map .str,.D<|aX l,.D<|.int<|1+c,v,Va]) ?b1 ao)<|Q8 (λe=>by rw[e] at UB;simp at UB;omega) (by rw[L];exact Y) (by omega))<|dS ⟨_,_,_,ρ,ρ,sE l,R,ρ,ρ,(g'.perm pm).drawn bo (by rw[pm.length_eq];omega) (λx hx=>U9 _ (by rw[<-L];exact bg.2 ⟨x,pm.mem_iff.1 hx,ρ⟩)) ((pm.map _).nodup_iff.2 (by rw[L];exact Y)),by rw[pm.length_eq,UB];exact U7,λx hx=>U8 _ (by rw[<-L];exact bg.2 ⟨x,pm.mem_iff.1 hx,ρ⟩)⟩;rcases be with rfl|rfl<;>rfl
def GR(fn:a8):Prop:=∀(x y:e6×Ob) (k:Nat),k=1\/k=2->x.2.ok->y.2.ok->fn [aJ x,aJ y,.int (k:Int)]=al (.D<|.bl<|dY k x.2 y.2)
def Lo (a:k=1\/k=2)(hx:x.ok)(c:y.ok):bd ((if co k y>co k x then co k y else co k x)<(if co (k+2) y<co (k+2) x then co (k+2) y else co (k+2) x))=dY k x y:=by
 delta Ob.ok at hx c;rw[t8,decide_eq_true_eq];rcases a with rfl|rfl
 ·show (if y.l>x.l then y.l else x.l)<(if y.r<x.r then y.r else x.r) ↔ (bd (x.l<y.r)&&bd (y.l<x.r))=bi;simp;split<;>split<;>omega
 show (if y.b>x.b then y.b else x.b)<(if y.t<x.t then y.t else x.t) ↔ (bd (x.b<y.t)&&bd (y.b<x.t))=bi;simp;split<;>split<;>omega
theorem QQ(T:Txt mg){f:dn}{a:kq}(F:bz K "_law_meets" "_law_meets" yx f a):∃fn,br P w K mg base bj 1 f a ["_law_one","_law_other","_law_low"] (aI K fn)/\GR fn:=by
 refine' cI F FW ρ ?C ?B
 case C=>walk_at "h"
 intro x y k d e g;have b:∀y,cp (aJ y) (.int (k:Int))=al (.int<|co k y.2):=fun y=>ny y (by lia);have c:∀y,cp (aJ y) (.int<|(k:Int)+2)=al (.int<|co (k+2) y.2):=fun y=>ny y (k:=k+2) (by omega);refine' dz ρ ?w;refine' aj<|cc (au (ai (aO (af (bc ρ ρ ρ<|b x)<|af (bc ρ ρ ρ<|b y) ao) ρ) ρ) (ai (aO (af (bc ρ (ai (au ρ ρ ρ) ρ) ρ<|c x)<|af (bc ρ (ai (au ρ ρ ρ) ρ) ρ<|c y) ao) ρ) ρ) ?_)<|dS ⟨_,ρ⟩;rw[<-Lo d e g];rfl
noncomputable def bL(k:Nat):Nat:=if k=0\/k=2 then 2 else 1
noncomputable def jt(k:Nat):Int:=if k<2 then 1 else -1
def gu(rs:Fl)(x:Ob)(k:Nat):List (Int×e6):=(rs.filter λy=>cP k x y.2).map λy=>(co (3-bL k) y.2,y.1)
def rD(k:Nat)(x y:Ob):Bool:=if k<2 then bd (co (bL k+2) x=co (bL k) y) else bd (co (bL k) x=co (bL k+2) y)
def Qx (c:k<4)(x y):cP k x y=(rD k x y&&dY (3-bL k) x y):=by
 have c:k=0\/k=1\/k=2\/k=3:=⋯;rcases c with rfl|rfl|rfl|rfl
 ·show (bd (y.b=x.t)&&dY 1 x y)=(bd (x.t=y.b)&&dY 1 x y);rw[decide_eq_decide.2 (eq_comm)]
 ·show (bd (y.l=x.r)&&dY 2 x y)=(bd (x.r=y.l)&&dY 2 x y);rw[decide_eq_decide.2 (eq_comm)]
 ·show (bd (y.t=x.b)&&dY 1 x y)=(bd (x.b=y.t)&&dY 1 x y);rw[decide_eq_decide.2 (eq_comm)]
 show (bd (y.r=x.l)&&dY 2 x y)=(bd (x.l=y.r)&&dY 2 x y);rw[decide_eq_decide.2 (eq_comm)]
def Gf(fn:a8):Prop:=∀(rs:Fl) (x:e6×Ob) (k:Nat),k<4->rs.length<64->x.2.ok->(∀y∈rs,y.2.ok)->((gu rs x.2 k).map (·.1)).Nodup->fn [aX rs,aJ x,.int (bL k:Int),.int<|jt k]=al (.O (.L (((dw<|gu rs x.2 k).map (·.2)).map .str)))
theorem KH (b:(l.map (·.1)).Nodup)(c:l.length<64)(a:fa Z=al ([.L (l.map fG)],Z1)):alt (cb kN fa) (alt (cb qO fa)<|cb vE fa) Z=al (.O<|.L<|(dw l).map fG,Z1):=by
 cases l with
 | nil =>
  refine gB<|aO a ?_;have:dw []=[]:=by unfold dw;simp
  rw[this];apply (qJ (l:=[]) (by decide)).trans;simp[bp]
 | cons p l=>refine zK ?_<|gB<|aO a<|Tu b c;unfold cb;rw[a];rfl
def Qe(T:Txt mg)(N:aY P w K mg base "_law_meets" 1 (aI K l))(O:GR l)(F:bz K "_law_side" "_law_side" A2 f r):∃fn,br P w K mg base bj 2 f r ["_law_rows","_law_one","_law_low","_law_way"] (aI K fn)/\Gf fn:=by
 refine' cI F Cv ρ ?Q ?B
 case Q=>walk_at "h"
 intro rs x k R S U V W;refine' dz ρ ?w;have hl:bL k=1\/bL k=2:=by unfold bL;split<;>simp
 have t:∀y,cp (aJ y) (.int (bL k:Int))=al (.int<|co (bL k) y.2):=λy=>ny y (by omega);have u:∀y,cp (aJ y) (.int<|(bL k:Int)+2)=al (.int<|co (bL k+2) y.2):=λy=>ny y (k:=bL k+2) (by omega);have v:(3:Int)-(bL k:Int)=((3-bL k:Nat):Int):=by omega
 have X:∀y,cp (aJ y) (.int<|(3:Int)-(bL k:Int))=al (.int<|co (3-bL k) y.2):=λy=>by rw[v];exact ny y (by lia)
 have Y:rM [.bl (bd<|jt k=1)]=al (.D<|.int (if k<2 then 1 else 0)):=by
  delta jt;by_cases h:k<2
  ·rw[if_pos h,if_pos h];rfl
  rw[if_neg h,if_neg h];rfl
 refine' aj<|aH (cG ao<|pd _) ρ<|aq ?_;have fs:∀j y,rs[j]?=al y->(((rs.take<|j+1).filter λy=>cP k x.2 y.2).map λy:e6×Ob=>fG (co (3-bL k) y.2,y.1))=(((rs.take j).filter λy=>cP k x.2 y.2).map λy:e6×Ob=>fG (co (3-bL k) y.2,y.1))++(if cP k x.2 y.2 then [fG (co (3-bL k) y.2,y.1)] else []):=λj y e=>by
  rw[fS e,YD,gf];congr 1
  by_cases h:cP k x.2 y.2=bi
  ·rw[if_pos h,u4,if_pos h];rfl
  rw[if_neg h,u4,if_neg h];rfl
 refine' aj<|fu (λj Z=>∃c a,Fr c/\Fr a/\Z=[.D (aX rs),.D<|aJ x,.D<|.int<|bL k,.D<|.int<|jt k,.O<|.L (((rs.take j).filter λy=>cP k x.2 y.2).map λy:e6×Ob=>fG (co (3-bL k) y.2,y.1)),c,a]) (da ρ) ⟨_,_,ι ρ,ι ρ,ρ⟩ ?st ?C
 case st =>
  rintro j d hd _ ⟨c,a,D,G,rfl⟩;rw[c6] at hd;obtain⟨y,I,rfl⟩:=gW.1 hd;have hy:=eH I;rw[fs j y I];have m:(((rs.take j).filter λy=>cP k x.2 y.2).map λy:e6×Ob=>fG (co (3-bL k) y.2,y.1)).length<sizeLine:=by rw[bt];refine X1 (qe _ _) ?_;rw[hY];delta dk;omega
  generalize (((rs.take j).filter λy=>cP k x.2 y.2).map λy:e6×Ob=>fG (co (3-bL k) y.2,y.1))=g at *;refine⟨[.D (aX rs),.D<|aJ x,.D<|.int<|bL k,.D<|.int<|jt k,.O<|.L g,.D<|aJ y,a],by rcases D with rfl|⟨d,rfl⟩<;>rfl,?_⟩;have pick:cp (.L [.bl (bd<|co (bL k) x.2=co (bL k+2) y.2),.bl<|bd<|co (bL k+2) x.2=co (bL k) y.2]) (.int (if k<2 then 1 else 0))=al (.bl<|rD k x.2 y.2):=by
   delta rD;by_cases h:k<2
   ·rw[if_pos h,if_pos h];rfl
   rw[if_neg h,if_neg h];rfl
  have o:=Qx R x.2 y.2;have J:=O x y (3-bL k) (by omega) U<|V y hy;rw[<-v] at J;have L:2<=sizeLine:=by unfold dk;decide
  refine' aj<|aH (Z2:=[.D (aX rs),.D<|aJ x,.D<|.int<|bL k,.D<|.int<|jt k,.O<|.L g,.D<|aJ y,.D<|.bl<|rD k x.2 y.2]) (v_res<|Dp (ai (cG (af (ai (au (bc ρ ρ ρ<|t x) (bc ρ (ai (au ρ ρ ρ) ρ) ρ<|u y)<|eq_int _ _) ρ)<|af (ai (au (bc ρ (ai (au ρ ρ ρ) ρ) ρ<|u x) (bc ρ ρ ρ<|t y)<|eq_int _ _) ρ) ao) L) ρ) (ai (aO (af (ai (au ρ ρ<|eq_int _ _) ρ) ao) Y) ρ) pick) ?b1<|aq ?b2
  case b1=>rcases G with rfl|⟨d,rfl⟩<;>rfl
  generalize rD k x.2 y.2=i at *;have no:cP k x.2 y.2=bn->∃c a,Fr c/\Fr a/\[.D (aX rs),.D<|aJ x,.D<|.int<|bL k,.D<|.int<|jt k,.O<|.L g,.D<|aJ y,.D<|.bl i]=[.D (aX rs),.D<|aJ x,.D<|.int<|bL k,.D<|.int<|jt k,.O<|.L<|g++if cP k x.2 y.2=bi then [fG (co (3-bL k) y.2,y.1)] else [],c,a]:=λh=>⟨_,_,τ ⟨_,ρ⟩,τ ⟨_,ρ⟩,by rw[h,if_neg (by simp),sb]⟩;refine' aj<|fJ (b:=i) (fq ρ ρ) (λh=>?_)<|λh=>aZ<|aq<|aZ<|no (by rw[o,h];rfl);refine' aj<|fJ (b:=dY (3-bL k) x.2 y.2) (fq (ai (aO (af ρ<|af ρ<|af (ai (au ρ ρ ρ) ρ) ao) J) ρ) ρ) (λq=>?_)<|λq=>aZ<|aq<|aZ<|aq<|aZ<|no (by rw[o,h,q];rfl);have e:cP k x.2 y.2=bi:=by rw[o,h,q];rfl
  refine' aj<|nT (mV (d:=fG (co (3-bL k) y.2,y.1)) ρ (af (gv (af (bc ρ (ai (au ρ ρ ρ) ρ) ρ<|X y)<|af (bc ρ ρ ρ ρ) ao) L) ao) m)<|aq<|aZ<|aq<|aZ<|aq<|aZ ⟨.D<|aJ y,.D<|.bl i,τ ⟨aJ y,ρ⟩,τ ⟨.bl i,ρ⟩,?_⟩;rw[if_pos e];rfl
 rintro _ ⟨c,a,D,G,rfl⟩;rw[bt,qt];have ep:((rs.filter λy=>cP k x.2 y.2).map λy:e6×Ob=>fG (co (3-bL k) y.2,y.1))=(gu rs x.2 k).map fG:=by unfold gu;rw[gk];rfl
 have M:(gu rs x.2 k).length<64:=by unfold gu;rw[bt];exact X1 (qe _ _) S
 rw[ep];have e2:=KH (fa:=fO (cf 4) lJ) (Z:=[.D (aX rs),.D<|aJ x,.D<|.int<|bL k,.D<|.int<|jt k,.O<|.L<|(gu rs x.2 k).map fG,c,a]) W M<|af ρ ao;refine' aq<|aj<|cc (gS (enc:=fG) (xs:=dw<|gu rs x.2 k) (λp=>[.no,.D<|.int p.1,.D<|.str p.2]) (λp=>.str p.2) (da<|ai e2 ρ) ρ ?b3 ?b4 (λ_ _=>rfl)<|λ_ _=>rfl)<|dS ?b9
 case b3=>rw[Af];unfold dk;omega
 case b4=>rintro y _ Z (rfl|⟨z,rfl⟩)<;>rfl
 rw[gk];exact⟨_,ρ⟩
def bS(rs:Fl)(x:Ob)(k:Nat):List Str:=if (dw<|gu rs x k).map (·.2)=[] then [aA k] else (dw<|gu rs x k).map (·.2)
theorem wB (h:f Z=al (.L<|l.map .str,Z1))(b:g Z1=al (.L [.str x],Z1)):oZ f g Z=al (.L<|(if l=[] then [x] else l).map .str,Z1):=by
 delta oZ;rw[h];cases l with
 | nil=>exact b
 | cons a l=>rfl
def Cw (h:f Z=al (.L ds,Z1))(a:g Z1=al (.int<|-1,Z2)):wV f g Z=al (.O<|.L ds.reverse,Z2):=by delta wV;rw[h];show (g Z1).bind _=_;rw[a];rfl
def ug(a b:List e6)(h1:a.length<=1000)(h2:b.length<=1000):iJ (.L<|a.map .str) (.L<|b.map .str)=al (.O<|.L<|(a++b).map .str):=by rw[gf];exact if_pos (by rw[bt,bt];unfold dk;omega)
def Kf (x)(k)(h:rs.length<64):(bS rs x k).length<=100:=by
 delta bS;split
 ·simp
 rw[bt,Af];delta gu;rw[bt];exact ia (qe _ _) (by lia)
def Hy(fn:a8):Prop:=∀(rs:Fl) (x:e6×Ob),rs.length<64->x.2.ok->(∀y∈rs,y.2.ok)->(∀k,k<4->((gu rs x.2 k).map (·.1)).Nodup)->fn [aX rs,aJ x]=al (.O<|.L<|(bS rs x.2 0++(bS rs x.2 1).reverse++(bS rs x.2 2).reverse++bS rs x.2 3).map .str)
def Lm(T:Txt mg)(j:aY P w K mg base "_law_side" 2 (aI K b))(m:Gf b)(F:bz K "_law_neighbours" "_law_neighbours" zM f c):∃fn,br P w K mg base bj 3 f c ["_law_rows","_law_one"] (aI K fn)/\Hy fn:=by
 refine' cI F B3 ρ ?I ?G
 case I=>walk_at "h"
 intro rs x d o p q;refine' dz ρ ?w;have e:=λk g=>m rs x k g d o p<|q k g;have l:=λk=>Kf (rs:=rs) x.2 k d;have a:1<=sizeLine:=by simp[dk]
 refine' aj<|aH (v_res<|wB (ai (aO ρ<|e 0 ⋯) ρ)<|ai (cG (af ρ ao) a) ρ) ρ<|aq ?_;refine' aj<|aH (v_res<|wB (ai (aO (by rfl)<|e 1 (by decide)) ρ)<|ai (cG (af ρ ao) a) ρ) ρ<|aq ?_;refine' aj<|aH (Z2:=[.D (aX rs),.D<|aJ x,.D<|.L<|(bS rs x.2 0).map .str,.D<|.L<|(bS rs x.2 1).map .str,.D<|.L<|(bS rs x.2 2).map .str,.no]) (v_res<|wB (ai (aO (by rfl)<|e 2 (by decide)) ρ)<|ai (cG (af ρ ao) a) ρ) ρ<|aq ?_;refine' aj<|aH (Z2:=[.D (aX rs),.D<|aJ x,.D<|.L<|(bS rs x.2 0).map .str,.D<|.L<|(bS rs x.2 1).map .str,.D<|.L<|(bS rs x.2 2).map .str,.D<|.L<|(bS rs x.2 3).map .str]) (v_res<|wB (ai (aO (by rfl)<|e 3 (by decide)) ρ)<|ai (cG (af ρ ao) a) ρ) ρ<|aq ?_;have l0:=l 0;have l1:=l 1;have l2:=l 2;have l3:=l 3;generalize bS rs x.2 0=A at *;generalize bS rs x.2 1=B at *;generalize bS rs x.2 2=C at *;generalize bS rs x.2 3=D at *;have h:=ug A B.reverse (by omega) (by rw[Xi];omega);have i:=ug (A++B.reverse) C.reverse (by rw[eW,Xi];omega) (by rw[Xi];omega);have r:=ug (A++B.reverse++C.reverse) D (by rw[eW,eW,Xi,Xi];omega) (by omega);rw[abT] at h i;exact aj<|cc (au (ai (au (ai (au ρ (ai (Cw ρ ρ) ρ) h) ρ) (ai (Cw ρ ρ) ρ) i) ρ) ρ r)<|dS ⟨_,ρ⟩
def Hv(fn:a8):Prop:=∀(rs:Fl),rs.length<64->(∀y∈rs,y.2.ok)->(∀x∈rs,∀k,k<4->((gu rs x.2 k).map (·.1)).Nodup)->fn [aX rs]=al (.O<|.L<|(rs.map λx=>(x.1,bS rs x.2 0++(bS rs x.2 1).reverse++(bS rs x.2 2).reverse++bS rs x.2 3)).map pairD)
def PM(T:Txt mg)(e:aY P w K mg base "_law_neighbours" 3 (aI K a))(g:Hy a)(F:bz K "_law_web" "_law_web" yj f b):∃fn,br P w K mg base bj 4 f b ["_law_rows"] (aI K fn)/\Hv fn:=by
 refine' cI F Ea ρ ?C ?B
 case C=>walk_at "h"
 intro rs h c i;refine' dz ρ ?w;have sz:rs.length<=sizeLine:=by unfold dk;lia
 have j:2<=sizeLine:=by unfold dk;decide
 refine' aj<|cc (gS (λy=>[.no,.D<|aJ y,.D<|aX rs]) (λx=>pairD (x.1,bS rs x.2 0++(bS rs x.2 1).reverse++(bS rs x.2 2).reverse++bS rs x.2 3)) (da ρ) ρ sz ?D (λy d=>gv (af (bc ρ ρ ρ ρ)<|af (ai (aO (af ρ<|af ρ ao)<|g rs y h (c y d) c<|i y d) ρ) ao) j)<|λ_ _=>rfl)<|dS ?G
 case D=>rintro y _ Z (rfl|⟨z,rfl⟩)<;>rfl
 rw[gk];exact⟨_,ρ⟩
def xk (hw:cv web)(bO:1<=web.length/\web.length<=8)(nm:∀p∈web,dD p.1=bi):ba web:=by refine⟨bO,nm,hw.C.gy,λp b=>?_⟩;have a:p.1∈web.map (·.1):=bg.2 ⟨p,b,ρ⟩;have c:=hw.C.len p.1 a;have d:=hw.C.nd p.1 a;have f:=hw.C.mem p.1 a;have g:=hw.C.fw p.1 a;rw[cM hw.C.gy b] at c d f g;exact⟨c,d,λn h=>⟨f n h,λz=>g<|z ▸ h⟩⟩
def qq(web a:ay):Prop:=(a.map (·.1)).Perm (web.map (·.1))/\∀z∈a,∃p∈web,p.1=z.1/\gd p.2 z.2
def qq.ok (t:qq web a)(h:ba web)(hw:cv web):ba a/\cv a:=by
 have nd:=t.1.nodup_iff.2 h.nd;have d:cv a:=jK.turn hw t.1 λx hx=>by obtain⟨z,b,rfl⟩:=bg.1<|t.1.mem_iff.2 hx;obtain⟨p,c,e,f⟩:=t.2 z b;rwa[cM nd b,<-e,cM h.nd c]
 have hl:=t.1.length_eq;rw[bt,bt] at hl;have bO:=h.bO;refine⟨xk d (by lia) λz b=>?_,d⟩;obtain⟨p,c,e,_⟩:=t.2 z b;rw[<-e];exact h.nm p c
def CF(L:Fl)(g:Ob->Int):(dw (L.map λy=>(g y.2,y.1))).map (·.2)=(L.mergeSort λa b=>bd<|g a.2<=g b.2).map (·.1):=by delta dw;rw[<-XZ (f:=λy:e6×Ob=>(g y.2,y.1)) (λa _ b _=>rfl),gk];rfl
def LX{L:Fl}{g:Ob->Int}(nd:(L.map λy=>g y.2).Nodup):(L.mergeSort λa b=>bd<|-g a.2 <= -g b.2)=(L.mergeSort λa b=>bd<|g a.2<=g b.2).reverse:=by
 have i:=gn L λa b=>bd<|-g a.2 <= -g b.2;have j:=gn L λa b=>bd<|g a.2<=g b.2;have m:=zb (le:=λa b:e6×Ob=>bd<|-g a.2 <= -g b.2) (λa b c d f=>by simp at *;omega) (λa b=>by simp;omega) L;have n:=zb (le:=λa b:e6×Ob=>bd<|g a.2<=g b.2) (λa b c d f=>by simp at *;omega) (λa b=>by simp;omega) L;refine pU (R:=λa b=>g b.2<=g a.2/\a∈L/\b∈L) (λa b d f=>?_) (i.trans<|j.symm.trans (List.reverse_perm _).symm) ?_ ?_
 ·rcases ko (hI.1 nd) d.2.1 d.2.2 with e|e|e
  ·exact e
  ·exact absurd (aaz f.1 d.1) e
  exact absurd (aaz d.1 f.1) e
 ·refine m.imp_of_mem λ{a b} k l h=>⟨?_,i.mem_iff.1 k,i.mem_iff.1 l⟩;lia
 rw[List.pairwise_reverse];exact n.imp_of_mem λ{a b} k l h=>⟨of_decide_eq_true h,j.mem_iff.1 l,j.mem_iff.1 k⟩
def DQ (d:k<4)(f:vS rs x):((gu rs x k).map (·.1)).Nodup/\(if k=0\/k=3 then bS rs x k else (bS rs x k).reverse)=jF rs x k:=by
 have nd:=f k d;unfold gY at nd;rw[gk] at nd;delta bS jF gu gY;generalize (rs.filter λy=>cP k x y.2)=L at *;have em:∀g:Ob->Int,(dw (L.map λy=>(g y.2,y.1))).map (·.2)=[] ↔ (L.map λy:e6×Ob=>(dj k y.2,y.1))=[]:=λg=>by rw[Zu,Zu,<-aaQ,Af,bt,aaQ]
 have d:k=0\/k=3\/k=1\/k=2:=by omega
 have aau:∀{g:Ob->Int},(∀y,dj k y=g y)->((L.map λy=>(g y.2,y.1)).map (·.1)).Nodup/\(if (dw (L.map λy=>(g y.2,y.1))).map (·.2)=[] then [aA k] else (dw (L.map λy=>(g y.2,y.1))).map (·.2))=(if (L.map λy:e6×Ob=>(dj k y.2,y.1))=[] then [aA k] else (dw (L.map λy:e6×Ob=>(dj k y.2,y.1))).map (·.2)):=λ{g} e=>by simp_all
 have back:∀{g:Ob->Int},(∀y,dj k y=-g y)->((L.map λy=>(g y.2,y.1)).map (·.1)).Nodup/\(if (dw (L.map λy=>(g y.2,y.1))).map (·.2)=[] then [aA k] else (dw (L.map λy=>(g y.2,y.1))).map (·.2)).reverse=(if (L.map λy:e6×Ob=>(dj k y.2,y.1))=[] then [aA k] else (dw (L.map λy:e6×Ob=>(dj k y.2,y.1))).map (·.2)):=λ{g} e=>by have e:dj k=λy=>-g y:=funext e;have c:(L.map λy=>g y.2).Nodup:=hI.2 ((hI.1 nd).imp λ{a b} h z=>by simp_all);refine⟨by rw[gk];exact c,?_⟩;by_cases h:L=[];simp_all;rw[if_neg (λz=>h (by simpa using (em _).1 z)),if_neg (by simpa using h),CF,CF,e,LX c,abT]
 rcases d with rfl|rfl|rfl|rfl
 ·exact aau λy=>rfl
 ·exact aau λy=>rfl
 ·exact back λy=>rfl
 exact back λy=>rfl
def Pl (a:vS rs x):bS rs x 0++(bS rs x 1).reverse++(bS rs x 2).reverse++bS rs x 3=gz rs x 4:=by have h:=λk b=>(DQ (k:=k) b a).2;rw[E3,<-h 0 ⋯,<-h 1 ⋯,<-h 2 ⋯,<-h 3 ⋯];rfl
def iU(rs:Fl):ay:=rs.map λy=>(y.1,gz rs y.2 4)
def Drawn.web (d:Drawn rs):ba (iU rs)/\cv (iU rs):=by
 have hw:=d.fl.zC d.mt<|List.Perm.refl _;have c:ba (rs.map λy=>(y.1,mY<|gz rs y.2 4)):=xk hw ⟨by rw[bt];exact ql.2 d.fl.ne,by rw[bt];exact d.fl.bO⟩ λz a=>by obtain⟨y,b,rfl⟩:=bg.1 a;exact d.fl.nm y b
 refine qq.ok ⟨by unfold iU;rw[gk,gk];exact List.Perm.refl _,λz a=>?_⟩ c hw;obtain⟨y,b,rfl⟩:=bg.1 a;exact⟨_,bg.2 ⟨y,b,ρ⟩,ρ,(BO _).symm⟩
def Ci(fn:cz):Prop:=∀p (web:ay),1<=web.length->web.length<=8->(∀z∈web,0<z.2.length/\z.2.length<=1000)->∃r a,fn (pD p) [.L (web.map pairD)]=al (r,a)/\∃(b:ay) (c:Int×Int),r=.O (.L<|b.map pairD)/\a=pD c/\qq web b
def Jt(T:Txt mg)(O:aY P w K mg base "_law_draw" 1 (dy K 0 fnD))(x:jW fnD)(F:bz K "_law_turned_web" "_law_turned_web" yC f C):∃fn,br P w K mg base bj 2 f C ["_law_purse_here","_law_web_here"] (dy K 0 fn)/\Ci fn:=by
 refine' r9 F Cb ρ ?Q ?B
 case Q=>intro cdv A outer s H E D;cases T;have lk:pG "_law_purse_here":=⟨trivial⟩;walk_at "S"
 intro p web h1 h8 D;refine' uX ρ ?w;have R:dg (.L<|web.map pairD)=al web.length:=by simp[dg]
 obtain⟨v0,t,S,U,b0⟩:=x p (m:=(web.length:Int)) (by omega) ⋯;obtain⟨a,rfl⟩:=Xo U;refine' aj<|aH (dM ρ (af (fH ρ R) ao) ρ S ρ) ρ<|aq ?_;refine' aj<|aH (cG ao<|pd _) ρ<|aq ?_;have G:gZ (.L<|web.map pairD) (al (a:Int)) am=al (.O<|.L<|(web.drop a).map pairD):=by show al (Res.O<|.L<|cutD (web.map pairD) (al (a:Int)) am)=_;rw[tY,Ym]
 have I:gZ (.L<|web.map pairD) am (al (a:Int))=al (.O<|.L<|(web.take a).map pairD):=by show al (Res.O<|.L<|cutD (web.map pairD) am<|al (a:Int))=_;rw[qL,Yl]
 have ad:iJ (.L<|(web.drop a).map pairD) (.L<|(web.take a).map pairD)=al (.O<|.L<|(web.drop a++web.take a).map pairD):=by rw[gf];exact if_pos (by rw[bt,bt,nS,hY];unfold dk;omega)
 have pm:(web.drop a++web.take a).Perm web:=by apply List.perm_append_comm.trans;rw[W4]
 generalize hL:web.drop a++web.take a=L at *;have ll:=pm.length_eq;refine' aj (fu (λk Z=>∃(q:Int×Int) (b:ay) (l o e:Slot),Z=[.io (pD q),.D<|.L<|web.map pairD,.D<|.int a,.O<|.L<|b.map pairD,l,o,e]/\Fr l/\Fr o/\Fr e/\b.map (·.1)=(L.take k).map (·.1)/\∀z∈b,∃p∈web,p.1=z.1/\gd p.2 z.2) (da<|ai (au (ai (tQ ρ ρ G) ρ) (ai (oK ρ ρ I) ρ) ad) ρ) ⟨t,[],_,_,_,ρ,ι ρ,ι ρ,ι ρ,ρ,λz g=>by cases g⟩ ?st ?J)
 case J=>rintro _ ⟨q,b,l,o,e,rfl,_,_,_,h,g⟩;rw[bt,qt] at h;exact aq<|aj<|cc ρ<|dS ⟨_,_,_,ρ,ρ,b,q,ρ,ρ,by rw[h];exact pm.map _,g⟩
 rintro k d hd _ ⟨q,b,l,o,e,rfl,V,W,X,h,g⟩;rw[c6] at hd;obtain⟨z,u,rfl⟩:=gW.1 hd;have r:=pm.mem_iff.1<|eH u;have hk:=(cm.1 u).1;obtain⟨z1,z2⟩:=D z r;refine⟨[.io (pD q),.D<|.L<|web.map pairD,.D<|.int a,.O<|.L<|b.map pairD,.D<|.str z.1,.D<|.L<|z.2.map .str,e],by rcases V with rfl|⟨d,rfl⟩<;>rcases W with rfl|⟨d,rfl⟩<;>rfl,?_⟩;have Y:dg (.L<|z.2.map .str)=al z.2.length:=by simp[dg]
 obtain⟨v1,M,t1,a1,N⟩:=x q (m:=(z.2.length:Int)) (by omega) ⋯;obtain⟨c,rfl⟩:=Xo a1;refine' aj<|aH (dM ρ (af (fH ρ Y) ao) ρ t1 ρ) ?N<|aq ?b2
 case N=>rcases X with rfl|⟨d,rfl⟩<;>rfl
 have r1:gZ (.L<|z.2.map .str) (al (c:Int)) am=al (.O<|.L<|(z.2.drop c).map .str):=by show al (Res.O<|.L<|cutD (z.2.map Dat.str) (al (c:Int)) am)=_;rw[tY,Ym]
 have r2:gZ (.L<|z.2.map .str) am (al (c:Int))=al (.O<|.L<|(z.2.take c).map .str):=by show al (Res.O<|.L<|cutD (z.2.map Dat.str) am<|al (c:Int))=_;rw[qL,Yl]
 have r3:=ug (z.2.drop c) (z.2.take c) (by rw[nS];omega) (by rw[hY];omega);have lw:b.length=k:=by have:=congrArg List.length h;rw[bt,bt,hY] at this;lia
 have v:(b.map pairD).length<sizeLine:=by rw[bt];delta dk;lia
 have s2:2<=sizeLine:=by unfold dk;decide
 refine' aj<|nT (mV (d:=pairD (z.1,z.2.drop c++z.2.take c)) ρ (af (gv (af ρ<|af (ai (au (ai (tQ ρ ρ r1) ρ) (ai (oK ρ ρ r2) ρ) r3) ρ) ao) s2) ao) v)<|aq<|aZ ⟨M,b++[(z.1,z.2.drop c++z.2.take c)],.D<|.str z.1,.D<|.L<|z.2.map .str,.D<|.int c,?_,τ ⟨.str z.1,ρ⟩,τ ⟨.L<|z.2.map .str,ρ⟩,τ ⟨.int c,ρ⟩,?_,?_⟩
 ·rw[gf];rfl
 ·rw[gf,fS u,gf,h];rfl
 intro y i;rcases ee.1 i with i|i
 ·exact g y i
 rw[n6.1 i];exact⟨z,r,ρ,z.2.take c,z.2.drop c,(W4 c z.2).symm,ρ⟩
end
local macro_rules | `(tactic| walk_at "0")=>Mq.fs "DE.alt&AM rrarA&Ux rarA"
local macro_rules | `(tactic| walk_at "0")=>Mq.fs "DE.alt&zu rrrarA&zl rrarA&AM rrarA"
local macro_rules | `(tactic| walk_at "0")=>Mq.fs "JE arrarA"
local macro_rules | `(tactic| walk_at "T")=>Mq.fs "OE aDD"
local macro_rules | `(tactic| walk_at "0")=>Mq.fs "SX ararA"
section
variable{P:kH}{w:pe}{K:ft}{mg:e6->Option cA}{base:ph}
def nj(a b:e6):Bool:=(hB 4).any fun j=>bd (a=aA j)&&bd (b=aA ((j+1)%4))
theorem yk{j k:Nat}(a:j<4)(b:k<4):aA j=aA k ↔ j=k:=by
 have a:j=0\/j=1\/j=2\/j=3:=by omega
 have b:k=0\/k=1\/k=2\/k=3:=by omega
 rcases a with rfl|rfl|rfl|rfl<;>rcases b with rfl|rfl|rfl|rfl<;>decide +kernel
theorem AG{j k:Nat}(a:j<4)(b:k<4):dR false (.str<|aA j) (.str<|aA k)=al (.D<|.bl<|bd<|j=k):=by rw[wX (lV _<|pH a).ok (lV _<|pH b).ok,decide_eq_decide.2<|yk a b]
theorem mO{j k:Nat}(b:j<4)(c:k<4):nj (aA j) (aA k)=bd ((j+1)%4=k):=by
 unfold nj;rw[t8,n4,decide_eq_true_eq];constructor
 ·rintro⟨i,a,e⟩;have a:=tm.1 a;rw[gj,decide_eq_true_eq,decide_eq_true_eq,yk b a,yk c (by omega)] at e;omega
 rintro rfl;exact⟨j,tm.2 b,by simp⟩
def bw(web:ay)(a b:e6):Bool:=if a∈web.map (·.1) then bd (b∈cu web a) else if b∈web.map (·.1) then bd (a∈cu web b) else nj a b||nj b a
def qm(fn:a8):Prop:=∀(web:ay) (a b:e6),ba web->(a∈web.map (·.1)\/a∈bu)->(b∈web.map (·.1)\/b∈bu)->fn [aG web,.str a,.str b]=al (.D<|.bl<|bw web a b)
theorem Cf{web:ay}{a b:e6}(h:ba web)(m:a∈web.map (·.1)\/a∈bu)(q:b∈web.map (·.1)\/b∈bu){e:EF}(r:∀j k,j<4->k<4->a=aA j->b=aA k->e [.D (aG web),.D<|.str a,.D<|.str b]=al (.D<|.bl (nj a b||nj b a),[.D (aG web),.D<|.str a,.D<|.str b])) :
  WS (iq (jl (dP<|bW (dU false) (cf 1)<|cf 0) (iq (lG<|bW (dU false) (cf 2)<|pS 0<|cf 1) kM) kM)<|iq (jl (dP<|bW (dU false) (cf 2)<|cf 0) (iq (lG<|bW (dU false) (cf 1)<|pS 0<|cf 2) kM) kM)<|iq (lG e) kM) [.D (aG web),.D<|.str a,.D<|.str b] fun o=>∃Z,o=.ret (.D<|.bl<|bw web a b) Z:=by
 by_cases c:a∈web.map (·.1)
 ·obtain⟨p,d,rfl⟩:=bg.1 c;have rt:∀n∈p.2,bf n:=fun n l=>h.txt ((h.rg p d).2.2 n l).1;have g:=lF web p.1 false;rw[decide_eq_true c] at g;refine aj<|Gi (bM<|au ρ ρ g) ρ<|aj<|cc (au ρ (kF ρ ρ<|lD h.nd d)<|jC rt (h.txt q) false)<|dS<|dS<|km ?_;unfold bw;rw[if_pos c,cM h.nd d];rfl
 have g:=lF web a false;rw[decide_eq_false c] at g;refine fI (bM<|au ρ ρ g) ρ ?_;by_cases f:b∈web.map (·.1)
 ·obtain⟨p,d,rfl⟩:=bg.1 f;have rt:∀n∈p.2,bf n:=fun n l=>h.txt ((h.rg p d).2.2 n l).1;have i:=lF web p.1 false;rw[decide_eq_true f] at i;refine aj<|Gi (bM<|au ρ ρ i) ρ<|aj<|cc (au ρ (kF ρ ρ<|lD h.nd d)<|jC rt (h.txt m) false)<|dS<|dS<|km ?_;unfold bw;rw[if_neg c,if_pos f,cM h.nd d];rfl
 have i:=lF web b false;rw[decide_eq_false f] at i;refine fI (bM<|au ρ ρ i) ρ ?_;obtain⟨j,s,t⟩:=kI<|m.resolve_left c;obtain⟨k,u,v⟩:=kI<|q.resolve_left f;refine aj<|cc (r j k s u t v)<|dS<|km ?_;unfold bw;rw[if_neg c,if_neg f]
theorem NJ(T:Txt mg){e:a8}(l:aY P w K mg base "follower" 1 (aI K e))(g:ui e){f:dn}{i:kq}(F:bz K "are_tied" "are_tied" AD f i):∃fn,br P w K mg base bj 2 f i ["rings","one","other"] (aI K fn)/\qm fn:=by
 refine' cI F HK (n:=3) ρ ?B ?C
 case B=>have nd:=HK.nd;have fz:gX "rings":=⟨trivial⟩;walk_at "h"
 clear T F l;intro web a b h m B;refine' dz ρ ?w;refine Cf h m B fun j k c d o p=>?_;subst o p;have q:=AG (show (j+1)%4<4 by omega) d;have r:=AG (show (k+1)%4<4 by omega) c;rw[mO c d,mO d c];exact v_res<|wG (ai (au (ai (aO (af ρ ao)<|g j c) ρ) ρ q) ρ)<|ai (au (ai (aO (af ρ ao)<|g k d) ρ) ρ r) ρ
def Gz(fn:a8):Prop:=∀j k,j<4->k<4->fn [.str (aA j),.str<|aA k]=al (.D<|.bl<|nj (aA j)<|aA k)
theorem SD(T:Txt mg){f:dn}{b:kq}(F:bz K "_law_shut_after" "_law_shut_after" zh f b):∃fn,br P w K mg base bj 1 f b ["_law_one","_law_other"] (aI K fn)/\Gz fn:=by
 refine' cI F FA (n:=2) ρ ?C ?B
 case C=>have nd:=FA.nd;walk_at "h"
 clear T F;intro j k a c;have h:4<=sizeLine:=by unfold dk;decide
 have d:=lV _<|pH a;have g:=jC lV d false;rw[decide_eq_true (pH a)] at g;have i:pN (.str<|aA j) (bu.map .str)=al j:=by
  have a:j=0\/j=1\/j=2\/j=3:=by omega
  rcases a with rfl|rfl|rfl|rfl<;>decide +kernel
 have l:cp (.L<|bu.map .str) (.int<|((j:Int)+1)%4)=al (.str<|aA<|(j+1)%4):=by
  have a:j=0\/j=1\/j=2\/j=3:=by omega
  rcases a with rfl|rfl|rfl|rfl<;>rfl
 have e:=AG c (show (j+1)%4<4 by omega);refine' dz ρ ?w;show WS _ [.D (.str<|aA j),.D<|.str<|aA k,.no] _;refine' aj<|aH (Z2:=[.D (.str<|aA j),.D<|.str<|aA k,.O<|.L<|bu.map .str]) (cG (af ρ<|af ρ<|af ρ<|af ρ ao) h) ρ<|aq ?_;refine aj<|cc (v_res<|uV (ai (au ρ ρ g) ρ)<|ai (au ρ (bc ρ (ai (au (ai (au (CI ρ (af ρ ao) (wg lV) (kL d.ok) i) ρ ρ) ρ) ρ ρ) ρ) ρ l) e) ρ)<|dS<|km ?_;rw[mO a c,t8];simp[eq_comm]
theorem QF(T:Txt mg){c:a8}(l:aY P w K mg base "_law_shut_after" 1 (aI K c))(d:Gz c){f:dn}{e:kq}(F:bz K "_law_tied" "_law_tied" Ao f e):∃fn,br P w K mg base bj 2 f e ["_law_rows","_law_one","_law_other"] (aI K fn)/\qm fn:=by
 refine' cI F G4 (n:=3) ρ ?B ?C
 case B=>have nd:=G4.nd;have fz:gX "_law_rows":=⟨trivial⟩;walk_at "h"
 clear T F l;intro web a b h m B;refine' dz ρ ?w;refine Cf h m B fun j k g i o p=>?_;subst o p;exact v_res<|wG (ai (aO (af ρ<|af ρ ao)<|d j k g i) ρ)<|ai (aO (af ρ<|af ρ ao)<|d k j i g) ρ
noncomputable def dE(l:List e6)(k:Nat):Str:=l.getD ((k+l.length-1)%l.length) ""
def dm(web:ay):List (List e6):=web.flatMap fun p=>(hB p.2.length).map fun k=>[p.1,dE p.2 k,p.2.getD k ""]
theorem zX{l:List e6}{k:Nat}(h:k<l.length):di (l.map Dat.str) ((k:Int)-1)=al (.str<|dE l k):=by
 have key:∀j,j<l.length->(l.map Dat.str)[j]?=al (.str<|l.getD j ""):=fun j a=>by rw[c6,cn a,gm,cn a];rfl
 have e:fZ (l.map Dat.str).length ((k:Int)-1)=al ((k+l.length-1)%l.length):=by
  unfold fZ;rw[bt];cases k with
  | zero =>
   rw[if_neg (by omega),if_pos (by omega),I9,hS (by omega)]
   congr 1;omega
  | succ k =>
   rw[if_pos (by omega),if_pos (by omega),show k+1+l.length-1=k+l.length by omega,Yc,hS (by omega)]
   congr 1;omega
 unfold di;rw[e];exact key _<|Xx _ (by omega)
def GX(fn:a8):Prop:=∀web:ay,web.length<=50->(∀p∈web,p.2.length<=50)->fn [.L (web.map pairD)]=al (.O<|.L<|(dm web).map tupS)
theorem zp:∀web:ay,(∀p∈web,p.2.length<=50)->(dm web).length<=web.length*50
 | [],_=>pd _
 | p::l,h=>by have h1:=h p fk;have:=zp l fun q a=>h q<|eR _ a;have e:dm (p::l)=((hB p.2.length).map fun k=>[p.1,dE p.2 k,p.2.getD k ""])++dm l:=ρ;rw[e,eW,bt,lT,gi,ZW];omega
theorem Gu{fa:AF}{Z Z1:DS}{n:Nat}(h:fa Z=al ([.int n],Z1))(hn:n<=1000):o6 fa Z=al ((hB n).map fun j:Nat=>.int (j:Int),Z1):=by rw[<-Cz];exact qz h (by omega)
theorem JX(T:Txt mg){f:dn}{g:kq}(F:bz K "_law_corners" "_law_corners" zE f g):∃fn,br P w K mg base bj 1 f g ["_law_web_here"] (aI K fn)/\GX fn:=by
 refine' cI F EK (n:=1) ρ ?D ?B
 case D=>have nd:=EK.nd;walk_at "h"
 clear T F;intro web h50 a;refine' dz ρ ?w;show WS _ [.D (.L<|web.map pairD),.no,.no,.no] _;refine' aj<|aH (Z2:=[.D (.L<|web.map pairD),.O<|.L [],.no,.no]) (cG ao<|pd _) ρ<|aq ?_;refine' aj<|fu (fun n Z=>∃c e,Fr c/\Fr e/\Z=[.D (.L<|web.map pairD),.O<|.L<|(dm<|web.take n).map tupS,c,e]) (da ρ) ⟨_,_,ι ρ,ι ρ,ρ⟩ ?st ?C
 case C=>rintro _ ⟨c,e,_,_,rfl⟩;rw[bt,qt];exact aq<|aj<|cc ρ<|dS ⟨_,ρ⟩
 rintro n y h _ ⟨c,e,l,m,rfl⟩;rw[c6] at h;obtain⟨p,ep,rfl⟩:=gW.1 h;have o:=eH ep;have hn:=(cm.1 ep).1;have i:=zp (web.take n) fun q r=>a q<|Yp r;have l2:=a p o;rw[hY] at i;have t:dm (web.take<|n+1)=dm (web.take n)++(hB p.2.length).map fun k=>[p.1,dE p.2 k,p.2.getD k ""]:=by unfold dm;rw[fS ep,Xj];simp
 rw[t,gf,gk];have hA:(dm<|web.take n).length<=2500:=ia i (by omega);generalize dm (web.take n)=A at *;have u:3<=sizeLine:=by unfold dk;decide
 refine⟨[.D (.L<|web.map pairD),.O<|.L<|A.map tupS,.D<|.str p.1,.D<|.L<|p.2.map .str],by rcases l with rfl|⟨d,rfl⟩<;>rcases m with rfl|⟨d,rfl⟩<;>rfl,?_⟩;refine' aj<|aH (Z2:=[.D (.L<|web.map pairD),.O<|.L (A.map tupS++(hB p.2.length).map fun k=>tupS [p.1,dE p.2 k,p.2.getD k ""]),.D<|.str p.1,.D<|.L<|p.2.map .str]) (au (Z1:=[.D (.L<|web.map pairD),.D<|.L<|A.map tupS,.D<|.str p.1,.D<|.L<|p.2.map .str]) ρ (ai (gS (enc:=fun j:Nat=>Dat.int (j:Int)) (xs:=hB p.2.length) (fun k=>[.no,.D<|.int (k:Int),.D<|.str p.1,.D<|.L<|p.2.map .str]) (fun k=>tupS [p.1,dE p.2 k,p.2.getD k ""]) (Gu (af (fH ρ (by simp[dg])) ao) (by omega)) ρ (by rw[lT];unfold dk;omega) ?G ?I<|fun _ _=>rfl) ρ)<|pL (by rw[bt,bt,lT];unfold dk;omega)) ρ<|aq<|aZ ⟨_,_,τ ⟨_,ρ⟩,τ ⟨_,ρ⟩,ρ⟩
 case G=>rintro y _ Z (rfl|⟨z,rfl⟩)<;>rfl
 intro k b;have b:=tm.1 b;have v:di (p.2.map Dat.str) (k:Int)=al (.str<|p.2.getD k ""):=iY (by rw[c6,cn b,gm,cn b];rfl);exact gv (af ρ<|af (bc ρ (ai (au ρ ρ ρ) ρ) ρ<|zX b)<|af (bc ρ ρ ρ v) ao) u
def namesW(web:ay):List Str:=bp (web.map (·.1)++bu)
noncomputable def fg(P:e6->e6->Bool)(a:e6)(l:List e6):List (List e6):=(hB l.length).flatMap fun m=>((l.drop<|m+1).filter (P<|l.getD m "")).map fun c=>[a,l.getD m "",c]
def iI(P:e6->e6->e6->Bool)(l:List e6):List (List e6):=(hB l.length).flatMap fun i=>fg (P<|l.getD i "") (l.getD i "")<|l.drop<|i+1
noncomputable def aF(l:List e6):Dat:=.L<|l.map .str
def lY(web:ay)(a b c:e6):Bool:=(bd (0<([a,b,c].filter fun n=>bd (n∈web.map (·.1))).length)&&!bd ([a,b,c]∈(dm web).map bp))&&bw web a b&&bw web a c&&bw web b c
def Kp(d:Dat)(t:Slot):Prop:=t=.O d\/t=.D d
theorem vh:∀a b:List e6,fX (a.map Dat.str) (b.map Dat.str)=bd (a=b)
 | [],[]=>rfl
 | [],_::_=>by simp[fX]
 | _::_,[]=>by simp[fX]
 | x::a,y::b=>by show (cY (.str x) (.str y)&&fX (a.map Dat.str) (b.map Dat.str))=_;rw[mH,vh a b,t8];simp
theorem pf{T:List (List e6)}(h:∀c∈T,∀x∈c,bf x):bJ (.L<|T.map aF)=bi:=EN (by rw[mA];intro d hd;obtain⟨f,a,rfl⟩:=bg.1 hd;show (f.map Dat.str).all g8=bi;rw[mA];intro d hd;obtain⟨x,hx,rfl⟩:=bg.1 hd;exact (h f a x hx).ok)
theorem Qu{a:List e6}{T:List (List e6)}(b:∀x∈a,bf x)(d:∀c∈T,∀x∈c,bf x):dU true (aF a) (.L<|T.map aF)=al (.D<|.bl<|!bd (a∈T)):=by
 show (if (bJ (aF a)&&bJ (.L<|T.map aF))=bi then al (Res.D<|.bl<|!inD (aF a) (T.map aF)) else am)=_;have e:inD (aF a) (T.map aF)=bd (a∈T):=by
  rw[p7,Y7,t8,n4,decide_eq_true_eq];constructor
  ·rintro⟨c,f,e⟩;have e:cY (.L<|c.map .str) (.L<|a.map .str)=bi:=e;rw[iF,vh,decide_eq_true_eq] at e;exact e ▸ f
  intro h;refine⟨a,h,?_⟩;show cY (.L<|a.map .str) (.L<|a.map .str)=bi;rw[iF,vh,decide_eq_true ρ]
 rw[show bJ (aF a)=bi from wg b,pf d,e];rfl
theorem MU{f g:DF}{Z Z1 Z2:DS}{d:Dat}(h:f Z=al (.bl true,Z1))(h':g Z1=al (d,Z2)):mM f g Z=al (d,Z2):=by unfold mM;rw[h];exact h'
theorem LD{f g:DF}{Z Z1:DS}(h:f Z=al (.bl false,Z1)):mM f g Z=al (.bl false,Z1):=by unfold mM;rw[h];rfl
theorem lX{a b:Type}{f:a->List b}{c:Nat}:∀{l:List a},(∀x∈l,(f x).length<=c)->(l.flatMap f).length<=l.length*c
 | [],_=>pd _
 | x::l,h=>by have h1:=h x fk;have h2:=lX fun y d=>h y<|eR _ d;simp only[W9,eW,gi,ZW];lia
theorem Oa{P:e6->e6->Bool}{a:e6}{l:List e6}(h:l.length<=12):(fg P a l).length<=144:=by
 have:(fg P a l).length<=(hB l.length).length*12:=lX fun m _=>by rw[bt];exact ia (qe _ _) (by rw[nS];omega)
 rw[lT] at this;lia
theorem Hs{lo n:Nat}(h:lo+1<=n):(cN ((lo:Int)+1) (n:Int)).length=n-(lo+1):=by unfold cN;simp;lia
theorem C1{a b:List e6}(h:(a++b).length<=1000):iJ (.L<|a.map .str) (.L<|b.map .str)=al (.O<|.L<|(a++b).map .str):=by rw[gf];exact pL (by rw[bt,bt,<-eW];unfold dk;omega)
theorem DX{web:ay}(h:ba web){c:List e6}(a:c∈dm web):∃p∈web,∃k,k<p.2.length/\c=[p.1,dE p.2 k,p.2.getD k ""]:=by obtain⟨p,b,a⟩:=zc.1 a;obtain⟨k,d,rfl⟩:=bg.1 a;exact⟨p,b,k,tm.1 d,ρ⟩
theorem getD_in{l:List e6}{k:Nat}(h:k<l.length):l.getD k ""∈l:=by rw[gm,cn h];exact W1 h
theorem JM{web:ay}(h:ba web):∀c∈(dm web).map bp,∀x∈c,bf x:=fun c b x hx=>by
 obtain⟨d,hd,rfl⟩:=bg.1 b;have hx:x∈d:=(gn _ _).mem_iff.1 hx;obtain⟨p,a,k,e,rfl⟩:=DX h hd;simp only[eS,fv,or_false] at hx;rcases hx with rfl|rfl|rfl
 ·exact h.txt<|ι<|bg.2 ⟨p,a,ρ⟩
 ·exact h.txt ((h.rg p a).2.2 _ (getD_in<|Xx _ (by lia))).1
 exact h.txt ((h.rg p a).2.2 _ (getD_in e)).1
def yb(fn:a8):Prop:=∀web:ay,ba web->fn [.L (web.map pairD)]=al (.O<|.L<|(iI (lY web)<|namesW web).map aF)
theorem Dx{web:ay}(h:ba web):vO [aG web]=al (.O (.L ((web.map (·.1)).map .str))):=by have bO:=h.bO;show (if (cK web).length<64 then al (Res.O (.L (((cK web).map (·.1)).map .str))) else am)=_;rw[if_pos (by unfold cK;rw[bt];lia)];unfold cK;rw[gk,gk,gk];rfl
theorem LK(T:Txt mg){UK S:a8}(q1:aY P w K mg base "_law_corners" 1 (aI K UK))(s1:GX UK)(q2:aY P w K mg base "_law_tied" 2 (aI K S))(s2:qm S){f:dn}{fd:kq}(F:bz K "_law_due" "_law_due" yq f fd):∃fn,br P w K mg base bj 3 f fd ["_law_web_here"] (aI K fn)/\yb fn:=by
 refine' cI F Es (n:=1) ρ ?Q ?post
 case Q=>have nd:=Es.nd;have hl:uo "_law_rows":=⟨trivial⟩;have fz:gX "_law_rows":=⟨trivial⟩;have so:xD "_law_rows":=⟨trivial⟩;have su:Gc "_law_corner":=⟨trivial⟩;walk_at "h"
 clear T F q1 q2;intro web h;have bO:=h.bO;have X:∀p∈web,p.2.length<=50:=fun p hp=>ia (h.len hp) (by decide);have e1:=s1 web (by omega) X;have lC:(dm web).length<=400:=ia (zp web X) (by omega);have U0:4<=sizeLine:=by unfold dk;decide
 have s3:3<=sizeLine:=by unfold dk;decide
 have ln:(web.map (·.1)++bu).length<=12:=by rw[eW,bt];show _+4<=12;lia
 have mN:∀{n},n∈namesW web->n∈web.map (·.1)\/n∈bu:=fun {n} hn=>ee.1<|(gn _ _).mem_iff.1 hn;have lN:(namesW web).length<=12:=by rw[show (namesW web).length=_ from (gn _ _).length_eq];exact ln
 have cT:=JM h;have eN:kN [.L ((web.map (·.1)++bu).map .str)]=al (.O<|.L<|(namesW web).map .str):=qJ (by omega);have eL:=Dx h;have eA:=C1 (a:=web.map (·.1)) (b:=bu) (by lia);refine' dz ρ ?w;show WS _ [.D (.L<|web.map pairD),.no,.no,.no,.no,.no,.no,.no,.no,.no] _;refine' aj<|aH (r:=.D<|aG web) (Z1:=[.D (.L<|web.map pairD),.no,.no,.no,.no,.no,.no,.no,.no,.no]) (Z2:=[.D (.L<|web.map pairD),.D<|aG web,.no,.no,.no,.no,.no,.no,.no,.no]) ?a ρ<|aq ?b
 case a=>unfold oV;rw[aO (af ρ ao) (xm h.nd)];rfl
 refine' aj<|aH (Z2:=[.D (.L<|web.map pairD),.D<|aG web,.O<|.L<|(namesW web).map .str,.no,.no,.no,.no,.no,.no,.no]) (gB<|aO (af (ai (au (ai (aO (af ρ ao) eL) ρ) (ai (cG (af ρ<|af ρ<|af ρ<|af ρ ao) U0) ρ) eA) ρ) ao) eN) ρ<|aq ?_;refine' aj<|aH (Z2:=[.D (.L<|web.map pairD),.D<|aG web,.O<|.L<|(namesW web).map .str,.O<|.L ((dm web).map fun c=>aF<|bp c),.no,.no,.no,.no,.no,.no]) (gS (enc:=tupS) (xs:=dm web) (fun c=>[.no,.D<|tupS c]) (fun c=>aF<|bp c) (da<|ai (aO (af ρ ao) e1) ρ) ρ (by unfold dk;lia) ?c1 ?c2<|fun _ _=>rfl) ρ<|aq ?_
 case c1=>rintro y _ Z (rfl|⟨z,rfl⟩)<;>rfl
 case c2=>intro c Y;obtain⟨p,hp,k,hk,rfl⟩:=DX h Y;rfl
 simp only[show ((dm web).map fun c=>aF<|bp c)=((dm web).map bp).map aF by rw[gk];rfl];have tN:∀n∈namesW web,bf n:=fun n hn=>h.txt<|mN hn;have td:=fun a b (ha:a∈namesW web) (Q:b∈namesW web)=>s2 web a b h (mN ha)<|mN Q;have iR:∀n,dU false (.str n) (aG web)=al (.D (.bl (bd (n∈web.map (·.1))))):=fun n=>by simpa using lF web n false
 have hP:∀a b c,lY web a b c=((bd (0<([a,b,c].filter fun n=>bd (n∈web.map (·.1))).length)&&!bd ([a,b,c]∈(dm web).map bp))&&bw web a b&&bw web a c&&bw web b c):=fun _ _ _=>rfl;generalize (dm web).map bp=T at *;generalize namesW web=N at *;generalize lY web=P at *;generalize web.map (·.1)=M at *;generalize aG web=R at *;generalize Dat.L (web.map pairD)=W;have UB:dg (.L<|N.map .str)=al N.length:=by simp[dg]
 have gN:∀{i},i<N.length->cp (.L<|N.map .str) (.int (i:Int))=al (.str<|N.getD i ""):=fun {i} U=>by simp only[iV];exact iY (by simp only[c6,cn U,gm,cn U];rfl)
 refine' aj<|aH (Z2:=[.D W,.D R,.O<|.L<|N.map .str,.O<|.L<|T.map aF,.O<|.L [],.no,.no,.no,.no,.no]) (cG ao<|pd _) ρ<|aq ?_;refine' aj<|fu (fun i Z=>∃e t5 v u t o,Kp (.L<|T.map aF) e/\Fr t5/\Fr v/\Fr u/\Fr t/\Fr o/\Z=[.D W,.D R,.O<|.L<|N.map .str,e,.O<|.L<|((hB i).flatMap fun i=>fg (P<|N.getD i "") (N.getD i "")<|N.drop<|i+1).map aF,t5,v,u,t,o]) (qz (af (fH ρ UB) ao) (by omega)) ⟨_,_,_,_,_,_,ι ρ,ι ρ,ι ρ,ι ρ,ι ρ,ι ρ,ρ⟩ ?st ?fin
 case fin=>rintro _ ⟨e,t5,v,u,t,o,_,_,_,_,_,_,rfl⟩;rw[Cr];exact aq<|aj<|cc ρ<|dS ⟨_,ρ⟩
 rintro i y hy _ ⟨e,t5,v,u,t,o,G,f5,f6,J,L,I,rfl⟩;obtain⟨U,rfl⟩:=ux hy;have U:i<N.length:=by omega
 simp only[Yr,Xj,X9];have lA:((hB i).flatMap fun i=>fg (P<|N.getD i "") (N.getD i "")<|N.drop<|i+1).length<=i*144:=by have:=lX (l:=hB i) (f:=fun i=>fg (P<|N.getD i "") (N.getD i "")<|N.drop<|i+1) (c:=144) fun j _=>Oa (by rw[nS];omega);rwa [lT] at this
 have lA:((hB i).flatMap fun i=>fg (P<|N.getD i "") (N.getD i "")<|N.drop<|i+1).length<=12*144:=ia lA<|Xb _ (by lia);generalize ((hB i).flatMap fun i=>fg (P<|N.getD i "") (N.getD i "")<|N.drop<|i+1)=A at *;have ha:N.getD i ""∈N:=getD_in U;have ga:=gN U;generalize N.getD i ""=a at *;refine⟨[.D W,.D R,.O<|.L<|N.map .str,e,.O<|.L<|A.map aF,.D<|.int (i:Int),v,u,t,o],by rcases f5 with rfl|⟨d,rfl⟩<;>rfl,?_⟩;have eD:∀m,m<(N.drop<|i+1).length->i+1+m<N.length/\(N.drop<|i+1).getD m ""=N.getD (i+1+m) "":=fun m hm=>by rw[nS] at hm;refine⟨by omega,?_⟩;simp only[gm,xr,gm]
 have lL:(N.drop<|i+1).length=N.length-(i+1):=nS;refine' aj<|fu (fun m Z=>∃e v u t o,Kp (.L<|T.map aF) e/\Fr v/\Fr u/\Fr t/\Fr o/\Z=[.D W,.D R,.O<|.L<|N.map .str,e,.O<|.L<|(A++(hB m).flatMap fun m=>(((N.drop<|i+1).drop (m+1)).filter (P a<|(N.drop<|i+1).getD m "")).map fun c=>[a,(N.drop<|i+1).getD m "",c]).map aF,.D<|.int (i:Int),v,u,t,o]) (zH (lo:=(i:Int)+1) (n:=N.length) (af (ai (au ρ ρ ρ) ρ)<|af (fH ρ UB) ao) (by lia)) ⟨_,_,_,_,_,G,f6,J,L,I,by simp⟩ ?st2 ?fin2
 case fin2=>rintro _ ⟨e,v,u,t,o,G,f6,J,L,I,rfl⟩;refine aq<|aZ ⟨e,.D<|.int (i:Int),v,u,t,o,G,τ ⟨_,ρ⟩,f6,J,L,I,?_⟩;rw[Hs (by lia),<-lL];rfl
 rintro m y hy _ ⟨e,v,u,t,o,G,f6,J,L,I,rfl⟩;obtain⟨hm,rfl⟩:=AR hy;have hm:m<(N.drop<|i+1).length:=by omega
 simp only[Yr,Xj,X9,<-um];have lB:((hB m).flatMap fun m=>(((N.drop<|i+1).drop (m+1)).filter (P a<|(N.drop<|i+1).getD m "")).map fun c=>[a,(N.drop<|i+1).getD m "",c]).length<=m*12:=by
  have:=lX (l:=hB m) (f:=fun m=>(((N.drop<|i+1).drop (m+1)).filter (P a<|(N.drop<|i+1).getD m "")).map fun c=>[a,(N.drop<|i+1).getD m "",c]) (c:=12) fun j _=>by rw[bt];exact ia (qe _ _) (by simp only[nS];omega)
  rwa [lT] at this
 have lB:(A++(hB m).flatMap fun m=>(((N.drop<|i+1).drop (m+1)).filter (P a<|(N.drop<|i+1).getD m "")).map fun c=>[a,(N.drop<|i+1).getD m "",c]).length<=12*144+12*12:=by rw[eW];exact acn lA<|ia lB<|Xb _ (by lia)
 generalize (A++(hB m).flatMap fun m=>(((N.drop<|i+1).drop (m+1)).filter (P a<|(N.drop<|i+1).getD m "")).map fun c=>[a,(N.drop<|i+1).getD m "",c])=B at *;obtain⟨hj,eb⟩:=eD m hm;have Q:(N.drop<|i+1).getD m ""∈N:=eb ▸ getD_in hj;have gb:=gN hj;rw[<-eb] at gb;generalize (N.drop<|i+1).getD m ""=b at *;have eK:(N.drop<|i+1).drop (m+1)=N.drop (i+1+m+1):=by rw[List.drop_drop];congr 1
 rw[eK];obtain⟨j,ej⟩:∃j,i+1+m=j:=⟨_,ρ⟩;rw[ej] at gb hj ⊢;rw[show ((i:Int)+1+(m:Int))=(j:Int) by lia];refine⟨[.D W,.D R,.O<|.L<|N.map .str,e,.O<|.L<|B.map aF,.D<|.int (i:Int),.D<|.int (j:Int),u,t,o],by rcases f6 with rfl|⟨d,rfl⟩<;>rfl,?_⟩;have U4:(N.drop<|j+1).length=N.length-(j+1):=nS;refine' aj<|fu (fun q Z=>∃e u t o,Kp (.L<|T.map aF) e/\Fr u/\Fr t/\Fr o/\Z=[.D W,.D R,.O<|.L<|N.map .str,e,.O<|.L<|(B++(((N.drop<|j+1).take q).filter (P a b)).map fun c=>[a,b,c]).map aF,.D<|.int (i:Int),.D<|.int (j:Int),u,t,o]) (zH (lo:=(j:Int)+1) (n:=N.length) (af (ai (au ρ ρ ρ) ρ)<|af (fH ρ UB) ao) (by lia)) ⟨_,_,_,_,G,J,L,I,by simp⟩ ?st3 ?fin3
 case fin3=>rintro _ ⟨e,u,t,o,G,J,L,I,rfl⟩;refine aq<|aZ ⟨e,.D<|.int (j:Int),u,t,o,G,τ ⟨_,ρ⟩,J,L,I,?_⟩;rw[Hs (by lia),<-U4,qt]
 rintro q y hy _ ⟨e,u,t,o,G,J,L,I,rfl⟩;obtain⟨hq,rfl⟩:=AR hy;have hk:j+1+q<N.length:=by lia
 have ec:(N.drop<|j+1)[q]?=al (N.getD (j+1+q) ""):=by simp only[xr,gm,cn hk];rfl
 have eQ:B++(((N.drop<|j+1).take (q+1)).filter (P a b)).map (fun c=>[a,b,c])=B++(((N.drop<|j+1).take q).filter (P a b)).map (fun c=>[a,b,c])++([N.getD (j+1+q) ""].filter (P a b)).map (fun c=>[a,b,c]):=by simp only[fS ec,YD,gf,um]
 simp only[eQ];clear eQ;have lC2:(B++(((N.drop<|j+1).take q).filter (P a b)).map fun c=>[a,b,c]).length<=3000:=by simp only[eW,bt];have:(((N.drop<|j+1).take q).filter (P a b)).length<=12:=ia (qe _ _)<|ia (Zm _ _) (by lia);lia
 generalize B++(((N.drop<|j+1).take q).filter (P a b)).map (fun c=>[a,b,c])=D at *;have Y:N.getD (j+1+q) ""∈N:=getD_in hk;have gc:=gN hk;generalize N.getD (j+1+q) ""=c at *;simp only[show ((j:Int)+1+(q:Int))=((j+1+q:Nat):Int) by lia];generalize j+1+q=k at *;have tx:∀x∈[a,b,c],bf x:=fun x hx=>by
  simp only[eS,fv,or_false] at hx;rcases hx with rfl|rfl|rfl
  ·exact tN _ ha
  ·exact tN _ Q
  exact tN _ Y
 have iT:=Qu tx cT;have C:=hP a b c;have done:∀e t o,Kp (.L<|T.map aF) e->Fr t->Fr o->∃UL UM UN UO,Kp (.L<|T.map aF) UL/\Fr UM/\Fr UN/\Fr UO/\[.D W,.D R,.O<|.L<|N.map .str,e,.O<|.L<|D.map aF++if P a b c=bi then [aF [a,b,c]] else [],.D<|.int (i:Int),.D<|.int (j:Int),.D<|.int (k:Int),t,o]=[.D W,.D R,.O<|.L<|N.map .str,UL,.O<|.L<|(D++([c].filter (P a b)).map fun c=>[a,b,c]).map aF,.D<|.int (i:Int),.D<|.int (j:Int),UM,UN,UO]:=fun e t o h3 h8 h9=>⟨e,_,t,o,h3,τ ⟨.int (k:Int),ρ⟩,h8,h9,by
  by_cases z:P a b c=bi
  ·simp[z]
  simp[z]⟩
 refine⟨[.D W,.D R,.O<|.L<|N.map .str,e,.O<|.L<|D.map aF,.D<|.int (i:Int),.D<|.int (j:Int),.D<|.int (k:Int),t,o],by rcases J with rfl|⟨d,rfl⟩<;>rfl,?_⟩;refine' aj<|aH (Z2:=[.D W,.D R,.O<|.L<|N.map .str,e,.O<|.L<|D.map aF,.D<|.int (i:Int),.D<|.int (j:Int),.D<|.int (k:Int),.O<|aF [a,b,c],o]) (cG (af (bc ρ ρ ρ ga)<|af (bc ρ ρ ρ gb)<|af (bc ρ ρ ρ gc) ao) s3) (by rcases L with rfl|⟨d,rfl⟩<;>rfl)<|aq ?_;have eC:=k9 (caps:=nV ["_law_web_here","_law_rows","_law_names_here","_law_threes","_law_found","_law_i","_law_j","_law_k","_law_three","_law_here"] {kind:=.function,names:=[(".0",.local),("_law_name",.local),("_law_rows",.free)],isGenerator:=false,isCoroutine:=false}) (fi:=alt (jI<|cf 8)<|jY<|cf 8) (g:=vQ 1) (fc:=dP<|bW (dU false) (cf 1)<|cf 2) (fe:=cf 1) (Z:=[.D W,.D R,.O<|.L<|N.map .str,e,.O<|.L<|D.map aF,.D<|.int (i:Int),.D<|.int (j:Int),.D<|.int (k:Int),.O<|aF [a,b,c],o]) (Z1:=[.D W,.D R,.O<|.L<|N.map .str,e,.O<|.L<|D.map aF,.D<|.int (i:Int),.D<|.int (j:Int),.D<|.int (k:Int),.D<|aF [a,b,c],o]) (enc:=Dat.str) (xs:=[a,b,c]) (fun n=>[.no,.D<|.str n,.D R]) (fun n=>bd<|n∈M) (fun n=>.str n) (da ρ) ρ s3 (by rintro y _ Z (rfl|⟨z,rfl⟩)<;>rfl) (fun n _=>bM<|au ρ ρ<|iR n) (fun n _ _=>rfl)<|fun _ _=>rfl;generalize hn:([a,b,c].filter fun n=>bd<|n∈M)=O at *;have e0:fR (fun _ _=>true) (fun i j=>.bl<|bd<|j<i) (.int (O.length:Int)) (.int 0)=al (.D<|.bl<|bd<|0<O.length):=by show al (Res.D<|.bl<|bd<|(0:Int)<(O.length:Int))=_;rw[show bd ((0:Int)<(O.length:Int))=bd (0<O.length) from decide_eq_decide.2 (by lia)]
 have eF:=au (ai (aO (fn:=vI) (af (ai eC ρ) ao) (show _=al (Res.D<|.int (O.length:Int)) by show al (Res.D<|.int ((O.map Dat.str).length:Int))=_;rw[bt])) ρ) (g:=fC<|.int 0) ρ e0;by_cases c1:0<O.length
 case neg=>rw[decide_eq_false c1] at eF C;refine' aj<|aH (Z2:=[.D W,.D R,.O<|.L<|N.map .str,e,.O<|.L<|D.map aF,.D<|.int (i:Int),.D<|.int (j:Int),.D<|.int (k:Int),.D<|aF [a,b,c],.D<|.bl false]) (v_res<|LD<|ai eF ρ) (by rcases I with rfl|⟨d,rfl⟩<;>rfl)<|aq ?_;refine aj<|Qv (v_and (fq ρ ρ)<|nz ρ ρ) ρ<|aZ<|aq<|aZ ?_;have:=done e (.D<|aF [a,b,c]) (.D<|.bl false) G (τ ⟨_,ρ⟩)<|τ ⟨_,ρ⟩;rw[if_neg (by rw[C];simp),sb] at this;exact this
 rw[decide_eq_true c1] at eF C;have U6:=td a b ha Q;have U7:=td a c ha Y;have U8:=td b c Q Y;refine' aj<|aH (Z2:=[.D W,.D R,.O<|.L<|N.map .str,.D<|.L<|T.map aF,.O<|.L<|D.map aF,.D<|.int (i:Int),.D<|.int (j:Int),.D<|.int (k:Int),.D<|aF [a,b,c],.D<|.bl<|!bd ([a,b,c]∈T)]) (v_res<|MU (ai eF ρ)<|ai (au ρ (show cf 3 _=al (.L<|T.map aF,[.D W,.D R,.O<|.L<|N.map .str,.D<|.L<|T.map aF,.O<|.L<|D.map aF,.D<|.int (i:Int),.D<|.int (j:Int),.D<|.int (k:Int),.D<|aF [a,b,c],o]) by rcases G with rfl|rfl<;>rfl) iT) ρ) (by rcases I with rfl|⟨d,rfl⟩<;>rfl)<|aq ?_;generalize bd ([a,b,c]∈T)=z at *;have V:=done (.D<|.L<|T.map aF) (.D<|aF [a,b,c]) (.D<|.bl<|!z) (τ ρ) (τ ⟨_,ρ⟩)<|τ ⟨_,ρ⟩;rw[Zy] at C;have tt:k8 (lK<|cf 9) (k8 (lK<|ij<|cb S<|fO (cf 1)<|fO (jr 8<|fC<|.int 0)<|fO (jr 8<|fC<|.int 1) lJ)<|lK<|ij<|cb S<|fO (cf 1)<|fO (jr 8<|fC<|.int 0)<|fO (jr 8<|fC<|.int 2) lJ) [.D W,.D R,.O<|.L<|N.map .str,.D<|.L<|T.map aF,.O<|.L<|D.map aF,.D<|.int (i:Int),.D<|.int (j:Int),.D<|.int (k:Int),.D<|aF [a,b,c],.D<|.bl<|!z]=al ((!z)&&(bw web a b&&bw web a c),[.D W,.D R,.O<|.L<|N.map .str,.D<|.L<|T.map aF,.O<|.L<|D.map aF,.D<|.int (i:Int),.D<|.int (j:Int),.D<|.int (k:Int),.D<|aF [a,b,c],.D<|.bl<|!z]):=mK (fq ρ ρ)<|mK (fq (ai (aO (af ρ<|af (bc ρ ρ ρ ρ)<|af (bc ρ ρ ρ ρ) ao) U6) ρ) ρ)<|fq (ai (aO (af ρ<|af (bc ρ ρ ρ ρ)<|af (bc ρ ρ ρ ρ) ao) U7) ρ) ρ;refine aj<|fJ tt (fun y=>?_)<|fun y=>?_
 ·refine aj<|fJ (fq (ai (aO (af ρ<|af (bc ρ ρ ρ ρ)<|af (bc ρ ρ ρ ρ) ao) U8) ρ) ρ) (fun y2=>?_)<|fun y2=>?_
  ·rw[if_pos (by rw[C,XO,XO,<-XO (bw web a b),<-XO,y,y2];rfl)] at V;exact aj<|nT (mV (d:=aF [a,b,c]) ρ (af ρ ao) (by rw[bt];unfold dk;lia))<|aq<|aZ<|aq<|aZ<|aq<|aZ V
  rw[if_neg (by rw[C,y2];simp),sb] at V;exact aZ<|aq<|aZ<|aq<|aZ V
 rw[if_neg (by simp only[C,XO<|!z,y];simp),sb] at V;exact aZ<|aq<|aZ V
noncomputable def sh:Xs->List Xs
 | .For _ _ b _ _=>b
 | _=>[]
def gq(i:Nat):Stmt:=(fN kh).getD i (.Pass ⟨0,0,0,0⟩)
def xH(i:Nat):Stmt:=(sh<|gq 5).getD i (.Pass ⟨0,0,0,0⟩)
def ur(i:Nat):Stmt:=(sh<|xH 1).getD i (.Pass ⟨0,0,0,0⟩)
noncomputable def Gy:Xs->hH
 | .Expr (.Call _ [e] _ _) _=>e
 | _=>.Constant .none 0 ⟨0,0,0,0⟩
abbrev BX(P:kH)(w:pe)(K:ft)(mg:e6->Option cA)(base:ph)(f:dn)(cdv:cA)(A:qp)(outer:List ZO)(s:ey)(H:Hp)(E:XK):Cx:=(iE bj P w K mg base ["web","rings","threes","names","found","one","ties","other","thirds"] "bars" (aP kh) f cdv A outer s H E).jA
theorem Je:fN kh=[gq 0,gq 1,gq 2,gq 3,gq 4]++[gq 5,gq 6]:=ρ
section
variable{f:dn}{cdv:cA}{A:qp}{outer:List ZO}{s:ey}{H:Hp}{E:XK}
def df(web:ay):List (List e6):=dv<|(bU web).map bp
noncomputable def gtB(a n:e6):Bool:=bd<|a.cps.toList<n.cps.toList
theorem vH{t:SF}{Z:DS}{o:Out}(h:WS t Z fun a=>a=o):t Z=al o:=by obtain⟨a,e,rfl⟩:=h;exact e
theorem NA(T:Txt mg)(w1:fQ K mg "WALLS" mB){c d:a8}(g:aY P w K mg base "must_web" 4 (aI K c))(i:xi c)(j:aY P w K mg base "threes_of" 2 (aI K d))(k:uU d)(l:bY 4 (A.deeper<|Xc "bars" (aP kh) s.heap.objs.size f cdv)) :
  ∃e,nI (BX P w K mg base f cdv A outer s H E) [gq 0,gq 1,gq 2,gq 3,gq 4] e/\∀web:ay,ba web->cv web->e [.D (.L<|web.map pairD),.no,.no,.no,.no,.no,.no,.no,.no]=al (.next [.D (.L<|web.map pairD),.D<|aG web,.O<|.aN false<|a9<|df web,.O<|.L<|(namesW web).map .str,.O<|.L [],.no,.no,.no,.no]):=by
 have nd:=oC.nd;cases T;have hl:uo "rings":=⟨trivial⟩;have fz:gX "rings":=⟨trivial⟩;have so:xD "rings":=⟨trivial⟩;refine'⟨_,?B,?C⟩
 case B=>walk_at "dskc"
 clear g j l;intro web h hw;have bO:=h.bO;have ln:(web.map (·.1)++bu).length<=12:=by rw[eW,bt];show _+4<=12;omega
 have m:kN [.L ((web.map (·.1)++bu).map .str)]=al (.O<|.L<|(namesW web).map .str):=qJ (by omega);have n:=Dx h;have o:=C1 (a:=web.map (·.1)) (b:=bu) (by omega);refine vH ?_;refine aj<|nT (ai (aO (af ρ ao)<|i web h hw) ρ)<|aq ?_;refine' aj<|aH (r:=.D<|aG web) (Z1:=[.D (.L<|web.map pairD),.no,.no,.no,.no,.no,.no,.no,.no]) (Z2:=[.D (.L<|web.map pairD),.D<|aG web,.no,.no,.no,.no,.no,.no,.no]) ?a ρ<|aq ?b
 case a=>unfold oV;rw[aO (af ρ ao) (xm h.nd)];rfl
 refine' aj<|aH (Z2:=[.D (.L<|web.map pairD),.D<|aG web,.O<|.aN false<|a9<|df web,.no,.no,.no,.no,.no,.no]) (aO (af ρ ao)<|k web h hw) ρ<|aq ?_;refine' aj<|aH (Z2:=[.D (.L<|web.map pairD),.D<|aG web,.O<|.aN false<|a9<|df web,.O<|.L<|(namesW web).map .str,.no,.no,.no,.no,.no]) (gB<|aO (af (ai (au (ai (aO (af ρ ao) n) ρ) (ai (aO (af ρ ao) ρ) ρ) o) ρ) ao) m) ρ<|aq ?_;exact aj<|aH (cG ao<|pd _) ρ<|aq<|aZ ρ
theorem QK(T:Txt mg){b:a8}(q1:aY P w K mg base "are_tied" 2 (aI K b))(l:qm b)(hr:bY 4 (A.deeper<|Xc "bars" (aP kh) s.heap.objs.size f cdv)) :
  ∃k,cg (BX P w K mg base f cdv A outer s H E) (xH 0) k/\∀(web:ay) (N:List e6) (a:e6) (W c:Dat) (e g i j:Slot),ba web->N.length<=12->(∀n∈N,n∈web.map (·.1)\/n∈bu)->(a∈web.map (·.1)\/a∈bu)->Fr g ->
   k [.D W,.D<|aG web,.D c,.D<|.L<|N.map .str,e,.D<|.str a,g,i,j]=al (.next [.D W,.D<|aG web,.D c,.D<|.L<|N.map .str,e,.D<|.str a,.O<|.L<|(N.filter fun n=>gtB a n&&bw web a n).map .str,i,j]):=by
 have nd:=oC.nd;cases T;have fz:gX "rings":=⟨trivial⟩;have gt:xn:=⟨trivial⟩;refine'⟨_,?B,?C⟩
 case B=>walk_at "Z"
 intro web N a W c e g i j h hl m o p;refine nc (k9 (enc:=Dat.str) (xs:=N) (fun n=>[.no,.D<|.str n,.D<|.str a,.D<|aG web]) (fun n=>gtB a n&&bw web a n) (fun n=>.str n) (da ρ) ρ (by unfold dk;omega) ?_ (fun n q=>mK (bM<|au ρ ρ ρ)<|fq (ai (aO (af ρ<|af ρ<|af ρ ao)<|l web a n h o<|m n q) ρ) ρ) (fun _ _ _=>rfl)<|fun _ _=>rfl) ?_
 ·rintro y _ Z (rfl|⟨z,rfl⟩)<;>rfl
 rcases p with rfl|⟨d,rfl⟩<;>rfl
theorem Rk(T:Txt mg){b:a8}(q1:aY P w K mg base "are_tied" 2 (aI K b))(l:qm b)(hr:bY 4 (A.deeper<|Xc "bars" (aP kh) s.heap.objs.size f cdv)) :
  ∃k,cg (BX P w K mg base f cdv A outer s H E) (ur 0) k/\∀(web:ay) (N:List e6) (a:e6) (W c e:Dat) (g i j:Slot),ba web->N.length<=12->(∀n∈N,n∈web.map (·.1)\/n∈bu)->(a∈web.map (·.1)\/a∈bu)->Fr j ->
   k [.D W,.D<|aG web,.D c,.D e,g,i,.D<|.L<|N.map .str,.D<|.str a,j]=al (.next [.D W,.D<|aG web,.D c,.D e,g,i,.D<|.L<|N.map .str,.D<|.str a,.O<|.L<|(N.filter fun n=>gtB a n&&bw web a n).map .str]):=by
 have nd:=oC.nd;cases T;have fz:gX "rings":=⟨trivial⟩;have gt:xn:=⟨trivial⟩;refine'⟨_,?B,?C⟩
 case B=>walk_at "Z"
 intro web N a W c e g i j h hl m o p;refine nc (k9 (enc:=Dat.str) (xs:=N) (fun n=>[.no,.D<|.str n,.D<|.str a,.D<|aG web]) (fun n=>gtB a n&&bw web a n) (fun n=>.str n) (da ρ) ρ (by unfold dk;omega) ?_ (fun n q=>mK (bM<|au ρ ρ ρ)<|fq (ai (aO (af ρ<|af ρ<|af ρ ao)<|l web a n h o<|m n q) ρ) ρ) (fun _ _ _=>rfl)<|fun _ _=>rfl) ?_
 ·rintro y _ Z (rfl|⟨z,rfl⟩)<;>rfl
 rcases p with rfl|⟨d,rfl⟩<;>rfl
theorem Ta(T:Txt mg)(hr:bY 4 (A.deeper<|Xc "bars" (aP kh) s.heap.objs.size f cdv)) :
  ∃l,DE (BX P w K mg base f cdv A outer s H E) (Gy<|ur 1) l/\∀(d:List (List e6)) (L:List e6) (a b:e6) (e g h i j:Slot),L.length<=12 ->
   l [e,g,.D<|.aN false<|a9 d,h,i,.D<|.str a,j,.D<|.str b,.D<|.L<|L.map .str]=al (.O<|.L ((L.filter fun c=>!bd ([a,b,c]∈d)).map fun c=>aF [a,b,c]),[e,g,.D<|.aN false<|a9 d,h,i,.D<|.str a,j,.D<|.str b,.D<|.L<|L.map .str]):=by
 have nd:=oC.nd;cases T;refine'⟨_,?B,?C⟩
 case B=>walk_at "E"
 intro d L a b e g h i j hl;have m:3<=sizeLine:=by unfold dk;decide
 refine k9 (enc:=Dat.str) (xs:=L) (fun n=>[.no,.D<|.str n,.D<|.str a,.D<|.str b,.D<|.aN false<|a9 d]) (fun c=>!bd ([a,b,c]∈d)) (fun c=>aF [a,b,c]) (da ρ) ρ (by unfold dk;omega) ?_ (fun n _=>bM<|vL (k:=[a,b,n]) ρ ρ) (fun _ _ _=>ai (cG (af ρ<|af ρ<|af ρ ao) m) ρ)<|fun _ _=>rfl;rintro y _ Z (rfl|⟨z,rfl⟩)<;>rfl
end
def cJ(web:ay)(N:List e6)(a:e6):List Str:=N.filter fun n=>gtB a n&&bw web a n
def iA(web:ay)(T:List (List e6))(N:List e6)(a b:e6):List (List e6):=((cJ web N b).filter fun c=>!bd ([a,b,c]∈T)).map fun c=>[a,b,c]
def fW(web:ay)(T:List (List e6))(N:List e6)(a:e6):List (List e6):=(cJ web N a).flatMap (iA web T (cJ web N a) a)
def dI(web:ay):List (List e6):=(namesW web).flatMap (fW web (df web)<|namesW web)
structure Nw (He Hi:Hp) (rs:List dn) (ls:List (List e6)):Prop where
 len:rs.length=ls.length
 at_:∀(i:Nat) r l,rs[i]?=al r->ls[i]?=al l->Rd Hi r (.L<|l.map V.str)
 nd:rs.Nodup
 nw:∀r∈rs,He r=am
theorem Nw.nil{He Hi:Hp}:Nw He Hi [] []:=⟨ρ,fun i r l h=>by simp at h,Dl,fun r h=>by cases h⟩
theorem Nw.mono{He Hi a:Hp}{rs:List dn}{b:List (List e6)}(h:Nw He Hi rs b)(s:ag Hi a):Nw He a rs b:=⟨h.len,fun i r l c d=>Rd.mono s<|h.at_ i r l c d,h.nd,h.nw⟩
theorem Nw.app{He Hi:Hp}{rs c:List dn}{m k:List (List e6)}(h:Nw He Hi rs m)(f:Nw He Hi c k)(d:∀r∈rs,r∉c):Nw He Hi (rs++c) (m++k):=by
 refine⟨by simp only[eW,eW,h.len,f.len],fun i r l g j=>?_,lp.2 ⟨h.nd,f.nd,fun a o b p e=>d a o<|e ▸ p⟩,fun r q=>(ee.1 q).elim (h.nw r) (f.nw r)⟩;by_cases n:i<rs.length
 ·rw[hG n] at g;rw[hG (by rw[<-h.len];exact n)] at j;exact h.at_ i r l g j
 rw[hE (by omega)] at g;rw[hE (by rw[<-h.len];omega),<-h.len] at j;exact f.at_ _ r l g j
theorem tH{Hi:Hp}:∀{rs:List dn}{vs:List V},aw K Hi (rs.map Dat.adr) vs ↔ vs=rs.map V.ref
 | [],vs=>Iff.rfl
 | r::rs,vs=>by
  constructor
  ·rintro⟨v,vr,rfl,a,h⟩;cases (show v=.ref r from a);rw[tH.1 h];rfl
  rintro rfl;exact⟨_,_,ρ,ρ,tH.2 ρ⟩
theorem Nw.yL{He Hi:Hp}:∀{rs:List dn}{a:List (List e6)},Nw He Hi rs a->aw K Hi (a.map aF) (rs.map V.ref)
 | [],[],_=>rfl
 | [],_::_,h=>by have:=h.len;simp at this
 | _::_,[],h=>by have:=h.len;simp at this
 | r::rs,l::a,h=>⟨_,_,ρ,⟨r,_,ρ,h.at_ 0 r l ρ ρ,gE _⟩,Nw.yL (He:=He) ⟨by have:=h.len;simpa using this,fun i r l b c=>h.at_ (i+1) r l (by simpa using b) (by simpa using c),(lq.1 h.nd).2,fun r d=>h.nw r<|eR _ d⟩⟩
def tM(K:ft):Sp:=fun vs H Q _=>∃Hi web,ag Hi H/\aw K Hi [.L (web.map pairD)] vs/\ba web/\cv web /\
 ∀p H' a rs,ag H H'->ag Hi a->ag a H'->(∀q o,a q=al o->jD Hi H q o)->H p=am->a p=am->H' p=al (.L<|rs.map V.ref)->Nw H a rs (dI web)->Q (.ref p) H'
theorem Mq{f:dn}{cdv:cA}{A:qp}{outer:List ZO}{s:ey}{H:Hp}{E:XK}{a tC:TS}{b:TE}(c:PS (BX P w K mg base f cdv A outer s H E) (xH 0) a)(d:PS (BX P w K mg base f cdv A outer s H E) (ur 0) tC)(pD:PE (BX P w K mg base f cdv A outer s H E) (Gy<|ur 1) b) :
  dF (BX P w K mg base f cdv A outer s H E) [gq 5,gq 6] (kY (rK (pW K<|ff 3) (gV 5)<|kY a<|rK (pW K<|ff 6) (gV 7)<|kY tC<|sd<|mn K "list" A6 (ff 4)<|j9 b j6)<|x5<|ff 4):=by
 have nd:=oC.nd;exact jq (sQ XR ρ (oH<|pv 3) (mI (i:=5) nd ρ (by first|exact Ye ρ|exact X3 ρ))<|jq c<|oE<|sQ XR ρ (oH<|pv 6) (mI (i:=7) nd ρ (by first|exact Ye ρ|exact X3 ρ))<|jq d<|oE<|vR<|lQ KX aa1 PySem.F.type_list_extend JL (pv 4)<|gw pD il)<|oE<|vC<|pv 4
theorem Ew{Hi:Hp}{g:e6->List e6}:∀{L:List e6}{vs:List V},aw K Hi (L.map fun c=>aF<|g c) vs->∃rs:List dn,vs=rs.map V.ref/\rs.length=L.length/\∀(i:Nat) r c,rs[i]?=al r->L[i]?=al c->Rd Hi r (.L<|(g c).map V.str)
 | [],vs,h=>⟨[],h,ρ,fun i r c e=>by simp at e⟩
 | c::L,vs,h=>by
  obtain⟨v,vr,rfl,⟨p,ws,rfl,a,b⟩,h⟩:=h;obtain⟨rs,rfl,e,k⟩:=Ew h;rw[kS b] at a;refine⟨p::rs,ρ,by simp only[gi,gi,e],fun i r d f j=>?_⟩;cases i with
  | zero=>obtain rfl:=sO f;obtain rfl:=sO j;exact a
  | succ i=>exact k i r d (by simpa using f) (by simpa using j)
theorem Cp{Hi b:Hp}:∀{a:List (List e6)}{kvs:List (List Key×V)},bR K Hi (a9 a) kvs->bR K b (a9 a) kvs
 | [],_,h=>h
 | k::a,_,h=>by obtain⟨v,r,e,q,t⟩:=h;exact⟨v,r,e,q,Cp t⟩
theorem Tv{X:Cx}{fD:EF}{tD:TE}(qD:∀(H0:Hp×Hp) (ps:Nat->Option dn) (Z:DS) (σ:St) (H Hi:Hp) (r:Res) (Z':DS) (Q:VK),fD Z=al (r,Z')->SR X.K H0 ps Z σ H Hi->(∀v H' k,SR X.K H0 ps Z' σ H' k->ag Hi k->RR X.K H0 ps Z' σ H' k v r->Q v H')->tD σ H Q)
 {m:List (List e6)}{L:List e6}{a b:e6}(eD:fD [.no,.no,.D<|.aN false<|a9 m,.no,.no,.D<|.str a,.no,.D<|.str b,.D<|.L<|L.map .str]=al (.O<|.L ((L.filter fun c=>!bd ([a,b,c]∈m)).map fun c=>aF [a,b,c]),[.no,.no,.D<|.aN false<|a9 m,.no,.no,.D<|.str a,.no,.D<|.str b,.D<|.L<|L.map .str]))
 {He U H Hi:Hp}{σ:St}{W R Nd Ti:Dat}{rs:List dn}{ls:List (List e6)}(S:SR X.K (He,U) (fun _=>am) [.D W,.D R,.D<|.aN false<|a9 m,.D Nd,.O<|.L<|rs.map .adr,.D<|.str a,.D Ti,.D<|.str b,.D<|.L<|L.map .str] σ H Hi)(nw:Nw He Hi rs ls)
 (na:a∉L)(UK:L.Nodup)(hL:L.length<=12)(hrs:rs.length<=3000){D:Ends}
 (kk:∀H' k Y,SR X.K (He,U) (fun _=>am) [.D W,.D R,.D<|.aN false<|a9 m,.D Nd,.O<|.L<|Y.map .adr,.D<|.str a,.D Ti,.D<|.str b,.D<|.L<|L.map .str] σ H' k->ag Hi k->Nw He k Y (ls++(L.filter fun c=>!bd ([a,b,c]∈m)).map fun c=>[a,b,c])->D.nx σ H') :
  sd (mn X.K "list" A6 (ff 4)<|j9 tD j6) D σ H:=by
 obtain⟨p,z4,⟨vs,N,rp,np⟩,nl,n0⟩:=S.O 4 _ ρ;rw[tH.1 rp] at N;obtain⟨v2,z2,y,od,kvs,rfl,hd,rk⟩:=S.D 2 _ ρ;obtain⟨v5,z5,r5⟩:=S.D 5 _ ρ;obtain⟨v7,z7,r7⟩:=S.D 7 _ ρ;obtain⟨v8,z8,C,vl,rfl,F,rl⟩:=S.D 8 _ ρ;rw[kS rl] at F;have hd:Hi y=al (.dT kvs):=hd;have Da:tS X.K (jR Hi [y,C]) [am,am,al<|.aN false<|a9 m,am,am,al<|.str a,am,al<|.str b,al<|.L<|L.map .str] σ:=⟨S.len,fun i d e=>by
  match i,e with
  | 0,e=>cases e
  | 1,e=>cases e
  | 2,e=>cases e;exact⟨_,z2,y,od,kvs,ρ,(FN (by simp)).trans hd,Cp rk⟩
  | 3,e=>cases e
  | 4,e=>cases e
  | 5,e=>cases e;exact⟨_,z5,r5⟩
  | 6,e=>cases e
  | 7,e=>cases e;exact⟨_,z7,r7⟩
  | 8,e=>cases e;exact⟨_,z8,C,_,ρ,C9 (by simp) F,gE _⟩
  | n+9,e=>exact nO e⟩
 refine⟨_,z4,ι ⟨ρ,_,bA.of N⟩,?_⟩;refine qD (H,jR Hi [y,C]) (fun _=>am) _ σ H _ _ _ _ eD (Da.sr<|qW.trans S.sub) fun v H2 be O s2 rr=>?_;obtain⟨p2,rfl,⟨vs2,UM,UN,np2⟩,_,n2,_⟩:=rr;obtain⟨f,rfl,G,k2⟩:=Ew (g:=fun c=>[a,b,c]) UN;have kp:ag H H2:=fun b o e=>O.keep b o e fun ⟨_,z⟩=>by exact nO z
 have fresh:∀r∈f,H r=am:=fun r I=>by
  obtain⟨i,s⟩:=uz I;obtain⟨c,hc⟩:∃c,(L.filter fun c=>!bd ([a,b,c]∈m))[i]?=al c:=⟨_,cn (by rw[<-G];exact (cm.1 s).1)⟩;have J:=k2 i r c s hc;have ne:∀u,Hi r=al u->jR Hi [y,C] r=al u->(u=.L ([a,b,c].map V.str)\/∃o,u=.aV o (.L<|[a,b,c].map V.str))->False:=fun u e t q=>by
   have T:r∈[y,C]\/∃xs,Rd Hi r (.U xs):=XJ fun z=>by rw[show jR Hi [y,C] r=am from if_neg z] at t;exact nO t
   rcases T with T|⟨xs,hx⟩
   ·simp only[eS,fv,or_false] at T;rcases T with rfl|rfl
    ·rw[hd] at e;obtain rfl:=sO e;rcases q with q|⟨o,q⟩<;>cases q
    have:Rd Hi r (.L<|[a,b,c].map V.str):=by
     rcases q with rfl|⟨o,rfl⟩
     ·exact ι e
     exact τ ⟨o,e⟩
    have:=Rd.one this F (fun _ _ z=>by cases z)<|fun _ _ z=>by cases z
    have:=HO.L.inj this;refine na ?_;have h2:V.str a∈L.map V.str:=by rw[<-this];simp
    obtain⟨x,hx,e⟩:=bg.1 h2;cases e;exact hx
   rcases hx with hx|⟨o,hx⟩<;>rw[hx] at e<;>obtain rfl:=sO e<;>rcases q with q|⟨o',q⟩<;>cases q
  rcases J with J|⟨o,J⟩
  ·rcases O.nw r _ J with z|z|⟨xs,z⟩
   ·exact (ne _ (qW _ _ z) z<|ι ρ).elim
   ·exact z
   cases z
  rcases O.nw r _ J with z|z|⟨xs,z⟩
  ·exact (ne _ (qW _ _ z) z<|τ ⟨_,ρ⟩).elim
  ·exact z
  cases z
 have UP:p∉f:=fun h=>by have:=fresh p h;rw[N] at this;cases this
 have sm:ag Hi fun b=>if b∈f then be b else Hi b:=fun b o e=>by
  have A:b∉f:=fun h=>by have:=fresh b h;rw[S.sub b o e] at this;cases this
  simp only[if_neg A,e]
 have S3:=(S.after (v:=.aU) (r:=.D .aU) kp sm (fun b o e=>by
  by_cases A:b∈f
  ·simp only[if_pos A] at e;exact O.sub b o e
  ·simp only[if_neg A] at e;exact kp b o<|S.sub b o e) (fun b o e=>by
  by_cases A:b∈f
  ·exact τ<|ι<|fresh b A
  simp only[if_neg A] at e;exact ι e) ρ).1
 have S4:=S3.write (i:=4) (io:=false) (c':=.L<|(rs++f).map .adr) (o:=.L<|rs.map V.ref++f.map V.ref) ρ z4 ⟨_,aT,tH.2 (by rw[gf]),by simp only[if_neg UP,np]⟩;have lf:(L.filter fun c=>!bd ([a,b,c]∈m)).length<=12:=ia (qe _ _) hL;refine⟨p,p2,_,_,ρ,ρ,kp _ _ N,UM,by simp only[bt,bt,G];unfold dk;lia,kk _ _ (rs++f) S4 sm ?_⟩;have M:∀(i:Nat) r c,f[i]?=al r->(L.filter fun c=>!bd ([a,b,c]∈m))[i]?=al c->Rd (fun b=>if b∈f then be b else Hi b) r (.L<|[a,b,c].map V.str):=fun i r c E B=>by have:=k2 i r c E B;unfold Rd at this ⊢;simp only[if_pos (eH E)];exact this
 refine (nw.mono sm).app ⟨by simp only[G,bt],fun i r l E B=>?_,?_,fun r I=>?_⟩ fun r I UQ=>?_
 ·rw[c6] at B;obtain⟨c,ec,rfl⟩:=gW.1 B;exact M i r c E ec
 ·have UB:=UK.sublist (n5 (p:=fun c=>!bd ([a,b,c]∈m)));rw[List.Nodup,oy] at UB ⊢;intro i j s hj US e;have E:=M i _ _ (cn s)<|cn (by rw[<-G];exact s);have B:=M j _ _ (cn hj)<|cn (by rw[<-G];exact hj);simp only[<-e] at B;have:=HO.L.inj<|Rd.one E B (fun _ _ z=>by cases z)<|fun _ _ z=>by cases z
  simp only[iW,Yz,List.cons.injEq,V.str.injEq,and_true,true_and] at this;exact UB i j _ _ US this
 ·cases e:He r with
  | none=>rfl
  | some o =>
   have:=S.keep r o e fun ⟨_,z⟩=>by exact nO z
   rw[fresh r I] at this;exact nO this
 obtain⟨i,s⟩:=uz I;obtain⟨l,hl⟩:∃l,ls[i]?=al l:=⟨_,cn (by rw[<-nw.len];exact (cm.1 s).1)⟩;have:=nw.at_ i r l s hl;have:=Rd.mono S.sub this;rcases this with z|⟨o,z⟩<;>rw[fresh r UQ] at z<;>exact nO z
theorem B'{web:ay}(h:ba web):(namesW web).Nodup:=by refine (gn _ _).nodup_iff.2 (lp.2 ⟨h.nd,by decide +kernel,fun a c b d e=>?_⟩);subst e;obtain⟨p,f,rfl⟩:=bg.1 c;obtain⟨k,hk,e⟩:=kI d;have:=h.nm p f;rw[e,wq] at this;cases this
theorem rF{a b:e6}(h:gtB a b=bi):gtB b a=bn:=by unfold gtB at *;rw[decide_eq_false_iff_not];exact fun z=>List.lt_asymm (of_decide_eq_true h) z
theorem oY{web:ay}{N:List e6}{a:e6}:(cJ web N a).length<=N.length:=qe _ _
theorem Fh{web:ay}{T:List (List e6)}{N:List e6}{a b:e6}:(iA web T N a b).length<=N.length:=by unfold iA;rw[bt];exact ia (qe _ _) oY
theorem Hk{web:ay}{T:List (List e6)}{N:List e6}{a:e6}(h:N.length<=12):(fW web T N a).length<=144:=by have:=lX (l:=cJ web N a) (f:=iA web T (cJ web N a) a) (c:=12) fun b _=>ia Fh<|ia oY h;have l:=ia (oY (web:=web) (N:=N) (a:=a)) h;exact ia this<|Xb 12 l
theorem Ui(T:Txt mg)(w1:fQ K mg "WALLS" mB){UG UH UI:a8}(q1:aY P w K mg base "must_web" 4 (aI K UG))(s1:xi UG)(q2:aY P w K mg base "threes_of" 2 (aI K UH))(s2:uU UH)(q3:aY P w K mg base "are_tied" 2 (aI K UI))(s3:qm UI){f:dn}{fd:kq}(F:bz K "bars" "bars" kh f fd):br P w K mg base bj 5 f fd ["web"] (tM K):=by
 refine F.ok oC (fun vs H Q E h=>?_)<|fun cdv A outer s H vs Q E I h=>?_
 ·obtain⟨Hi,web,_,rp,_⟩:=h;rw[rp.length];rfl
 obtain⟨Hi,web,sm,rp,J,hw,kk⟩:=h;obtain⟨fA,dA,eA⟩:=NA (f:=f) (cdv:=cdv) (outer:=outer) (H:=H) (E:=E) T w1 q1 s1 q2 s2 I;obtain⟨fB,⟨tB,pB,qB⟩,eB⟩:=QK (f:=f) (cdv:=cdv) (outer:=outer) (H:=H) (E:=E) T q3 s3 I;obtain⟨fC,⟨tC,pC,qC⟩,eC⟩:=Rk (f:=f) (cdv:=cdv) (outer:=outer) (H:=H) (E:=E) T q3 s3 I;obtain⟨fD,⟨tD,pD,qD⟩,eD⟩:=Ta (f:=f) (cdv:=cdv) (outer:=outer) (H:=H) (E:=E) T I;obtain⟨tA,pA,qA⟩:=dA.ex _ _<|Mq pB pC pD;simp only[<-Je] at pA;refine⟨tA,pA,?_⟩;clear dA pA pB pC pD q1 q2 q3 I T F;refine qA (H,Hi) (fun _=>am) _ _ H Hi _ _ (eA web J hw) (yM (N:=["web","rings","threes","names","found","one","ties","other","thirds"]) sm rp) fun UW H1 Hi1 S1 UX=>?_;obtain⟨Hi2,v2,_,S2,UY,_⟩:=S1.kB (i:=2) ρ;obtain⟨L,v3,z3,S3,UZ,pn,vn,rfl,M,rn⟩:=S2.kB (i:=3) ρ;rw[kS rn] at M;have mN:∀n∈namesW web,n∈web.map (·.1)\/n∈bu:=fun n C=>ee.1<|(gn _ _).mem_iff.1 C;have bO:=J.bO;have lN:(namesW web).length<=12:=by rw[show (namesW web).length=_ from (gn _ _).length_eq,eW,bt];show _+4<=12;lia
 have U0:(namesW web).Nodup:=B' J;have S3:SR K (H,Hi) (fun _=>am) [.D (.L<|web.map pairD),.D<|aG web,.D<|.aN false<|a9<|df web,.D<|.L<|(namesW web).map .str,.O<|.L<|([]:List dn).map .adr,.no,.no,.no,.no] UW H1 L:=S3;have eP:dI web=(namesW web).flatMap (fW web (df web)<|namesW web):=ρ;generalize namesW web=N at *;generalize df web=g at *;generalize hW:Dat.L (web.map pairD)=W at *;refine⟨_,z3,pn,ρ,⟨_,ι<|Rd.mono S3.sub M⟩,wk (xs:=N.map V.str) (fun i σ H'=>∃c rs O y l k,SR K (H,Hi) (fun _=>am) [.D W,.D<|aG web,.D<|.aN false<|a9 g,.D<|.L<|N.map .str,.O<|.L<|rs.map .adr,O,y,l,k] σ H' c/\ag L c/\Fr O/\Fr y/\Fr l/\Fr k/\Nw H c rs ((N.take i).flatMap (fW web g N))) ⟨L,[],_,_,_,_,S3,ag.refl _,ι ρ,ι ρ,ι ρ,ι ρ,Nw.nil⟩ ?_ ?_ ?_⟩
 ·rintro i σ H' _ ⟨c,rs,O,y,l,k,S,R,_⟩;exact ι<|Rd.mono S.sub<|Rd.mono R M
 ·rintro i x σ H' hx ⟨c,rs,O,y,l,k,S,R,f5,f6,D,G,nw⟩;rw[c6] at hx;obtain⟨a,ea,rfl⟩:=gW.1 hx;have ha:=eH ea;have S':=S.put (i:=5) (v:=.str a) (r:=.D<|.str a) (Z':=[.D W,.D<|aG web,.D<|.aN false<|a9 g,.D<|.L<|N.map .str,.O<|.L<|rs.map .adr,.D<|.str a,y,l,k]) ρ (by rcases f5 with rfl|⟨d,rfl⟩<;>rfl);refine qB (H,Hi) (fun _=>am) _ _ _ _ _ _ (eB web N a W _ _ y l k J lN mN (mN a ha) f6) S' fun U4 H4 Hi4 S4 s4=>?_;obtain⟨B,v6,z6,S5,s5,pt,vt,rfl,m,rt⟩:=S4.kB (i:=6) ρ;rw[kS rt] at m;have S5:SR K (H,Hi) (fun _=>am) [.D W,.D<|aG web,.D<|.aN false<|a9 g,.D<|.L<|N.map .str,.O<|.L<|rs.map .adr,.D<|.str a,.D<|.L<|(cJ web N a).map .str,l,k] U4 H4 B:=S5;have m:Rd B pt (.L<|(cJ web N a).map V.str):=m;have eT:fW web g N a=(cJ web N a).flatMap (iA web g (cJ web N a) a):=ρ;have U:=ia (oY (web:=web) (N:=N) (a:=a)) lN;have mT:∀n∈cJ web N a,n∈N/\gtB a n=bi:=fun n C=>⟨(f'.1 C).1,(kx.1 (f'.1 C).2).1⟩;have U8:(cJ web N a).Nodup:=U0.sublist n5;have lA:((N.take i).flatMap (fW web g N)).length<=12*144:=ia (lX fun b _=>Hk lN)<|Xb _<|ia (Zm _ _) lN;have e0:(N.take<|i+1).flatMap (fW web g N)=(N.take i).flatMap (fW web g N)++fW web g N a:=by simp only[fS ea,Xj,X9]
  generalize (N.take i).flatMap (fW web g N)=A0 at *;have U9:=nw.mono<|s4.trans s5;refine⟨_,z6,pt,ρ,⟨_,ι<|Rd.mono S5.sub m⟩,wk (xs:=(cJ web N a).map V.str) (fun j σ H'=>∃c rs l k,SR K (H,Hi) (fun _=>am) [.D W,.D<|aG web,.D<|.aN false<|a9 g,.D<|.L<|N.map .str,.O<|.L<|rs.map .adr,.D<|.str a,.D<|.L<|(cJ web N a).map .str,l,k] σ H' c/\ag B c/\Fr l/\Fr k/\Nw H c rs (A0++((cJ web N a).take j).flatMap (iA web g (cJ web N a) a))) ⟨B,rs,_,_,S5,ag.refl _,D,G,by simpa using U9⟩ ?_ ?_ ?_⟩
  ·rintro j σ' H6 _ ⟨Y,t,l,k,Z,s6,_⟩;exact ι<|Rd.mono Z.sub<|Rd.mono s6 m
  ·rintro j x σ' H6 hx ⟨Y,t,l,k,Z,s6,D,G,u⟩;rw[c6] at hx;obtain⟨b,eb,rfl⟩:=gW.1 hx;have hb:=mT b<|eH eb;have S7:=Z.put (i:=7) (v:=.str b) (r:=.D<|.str b) (Z':=[.D W,.D<|aG web,.D<|.aN false<|a9 g,.D<|.L<|N.map .str,.O<|.L<|t.map .adr,.D<|.str a,.D<|.L<|(cJ web N a).map .str,.D<|.str b,k]) ρ (by rcases D with rfl|⟨d,rfl⟩<;>rfl);refine qC (H,Hi) (fun _=>am) _ _ _ _ _ _ (eC web (cJ web N a) b W _ _ _ _ k J U (fun n C=>mN n (mT n C).1) (mN b hb.1) G) S7 fun Vc H8 Hi8 S8 s8=>?_;obtain⟨Ve,v8,z8,S9,s9,_⟩:=S8.kB (i:=8) ρ;have S9:SR K (H,Hi) (fun _=>am) [.D W,.D<|aG web,.D<|.aN false<|a9 g,.D<|.L<|N.map .str,.O<|.L<|t.map .adr,.D<|.str a,.D<|.L<|(cJ web N a).map .str,.D<|.str b,.D<|.L<|(cJ web (cJ web N a) b).map .str] Vc H8 Ve:=S9;have lB:(((cJ web N a).take j).flatMap (iA web g (cJ web N a) a)).length<=12*12:=ia (lX fun b _=>ia Fh U)<|Xb _<|ia (Zm _ _) U;have l6:=u.len;rw[eW] at l6;refine Tv (X:=BX P w K mg base f cdv A outer s H E) qD (eD g _ a b _ _ _ _ _<|ia oY U) S9 (u.mono<|s8.trans s9) (fun z=>?_) (U8.sublist n5) (ia oY U) (by lia) fun H' c Vg S' s' Vh=>?_
   ·have:=(kx.1 (f'.1 z).2).1;rw[rF hb.2] at this;cases this
   refine⟨c,Vg,_,_,S',s6.trans<|s8.trans<|s9.trans s',τ ⟨_,ρ⟩,τ ⟨_,ρ⟩,?_⟩;rw[fS eb,Xj,<-um,X9];exact Vh
  rintro σ' H6 ⟨Y,t,l,k,Z,s6,D,G,u⟩;refine⟨Y,t,_,_,_,_,Z,R.trans<|s4.trans<|s5.trans s6,τ ⟨_,ρ⟩,τ ⟨_,ρ⟩,D,G,?_⟩;simp only[bt,qt,<-eT,<-e0] at u;exact u
 rintro σ H' ⟨c,rs,O,y,l,k,S,R,f5,f6,D,G,nw⟩;obtain⟨p,z4,⟨vs,hp,Vj,np⟩,nl,n0⟩:=S.O 4 _ ρ;rw[tH.1 Vj] at hp;simp only[bt,qt,<-eP] at nw;exact⟨_,z4,kk p H' c rs (fun b o e=>S.keep b o e fun ⟨_,z⟩=>by exact nO z) (UX.trans<|UY.trans<|UZ.trans R) S.sub (fun q o e=>S.nw q o e) n0 np hp nw⟩
theorem RE:∀{p q:e6×List e6},pairD p=pairD q->p=q:=fun {p q} h=>by unfold pairD at h;injection h with h;injection h with d c;injection d with d;injection c with c;injection c with c;have c:=(abr (f:=Dat.str) fun a b e=>by injection e).1 c;exact acb d c
theorem Fd{a b:ay}(h:a.map pairD=b.map pairD):a=b:=(abr fun _ _ e=>RE e).1 h
noncomputable def pI(g:ay->Res):a8:=fun ds=>haveI:=fun p=>XU p;if h:∃web:ay,ds=[.L (web.map pairD)]/\ba web/\cv web then al (g h.choose) else am
theorem rQ{g:ay->Res}{web:ay}(h:ba web)(hw:cv web):pI g [.L (web.map pairD)]=al (g web):=by have ex:∃a:ay,[Dat.L (web.map pairD)]=[.L (a.map pairD)]/\ba a/\cv a:=⟨web,ρ,h,hw⟩;unfold pI;rw[dif_pos ex];have:=ex.choose_spec.1;injection this with this;injection this with this;rw[<-Fd this]
theorem yV{g:ay->Res}{ds:List Dat}{r:Res}(e:pI g ds=al r):∃web:ay,ds=[.L (web.map pairD)]/\ba web/\cv web/\r=g web:=by
 unfold pI at e;split at e
 ·rename_i h;cases e;exact⟨_,h.choose_spec.1,h.choose_spec.2.1,h.choose_spec.2.2,ρ⟩
 cases e
noncomputable def tO:a8:=pI fun web=>.O<|.L<|(dI web).map aF
theorem Gv(vs:List V)(H:Hp)(Q:VK)(E:XK)(h:aI K tO vs H Q E):tM K vs H Q E:=by obtain⟨Hi,ds,r,sm,b,e,c⟩:=h;obtain⟨web,rfl,d,hw,rfl⟩:=yV e;exact⟨Hi,web,sm,b,d,hw,fun p H' a rs f g i j k l m nw=>c _ H' a f g i j ⟨p,ρ,⟨_,m,nw.yL,l⟩,k⟩⟩
theorem FH:∀l:List (e6×List e6),fX (l.map pairD) (l.map pairD)=bi
 | []=>rfl
 | p::l=>by show (cY (pairD p) (pairD p)&&fX (l.map pairD) (l.map pairD))=bi;simp[FH l];show cY (.U _) (.U _)=bi;show (cY (.str p.1) (.str p.1)&&(cY (.L<|p.2.map .str) (.L<|p.2.map .str)&&true))=bi;simp[iF,yt,mH]
def A1:Dat->Bool
 | .U ds=>ds.all jk
 | _=>false
theorem Lc{l:List (e6×List e6)}(h:∀p∈l,bf p.1/\∀n∈p.2,bf n):bJ (.L<|l.map pairD)=bi:=by
 have key:(l.map pairD).all A1=bi:=by
  rw[mA];intro d hd;obtain⟨p,e,rfl⟩:=bg.1 hd;obtain⟨f,g⟩:=h p e;show [Dat.str p.1,.L<|p.2.map .str].all jk=bi;have i:jk (.str p.1)=bi:=f.ok;have j:jk (.L<|p.2.map .str)=bi:=by show (p.2.map Dat.str).all g8=bi;rw[mA];intro d hd;obtain⟨n,k,rfl⟩:=bg.1 hd;exact (g n k).ok
  simp only[YT,i,j];rfl
 obtain⟨a,b,c⟩:=@sk 2 A1 (λd h=>(λh=>by
   cases d with
   | U ds=>obtain⟨a,b,c⟩:=@sk 1 jk (λd h=>zZ h) ds h;simp_all [gG,toPy,W0,PyData.depth]
   | _=>cases h) h) _ key
 dsimp only[bJ,ZJ];simp only[gG,toPy,W0,PyData.depth,a,b];simp;lia
theorem zg:∀l:List (List e6),fX (l.map aF) (l.map aF)=bi
 | []=>rfl
 | c::l=>by show (cY (.L<|c.map .str) (.L<|c.map .str)&&fX (l.map aF) (l.map aF))=bi;rw[zg l,iF,vh,decide_eq_true ρ];rfl
def e9(i:Nat):Stmt:=(fN k0).getD i (.Pass ⟨0,0,0,0⟩)
noncomputable def Ff:Xs->hH
 | .If c _ _ _=>c
 | _=>.Constant .none 0 ⟨0,0,0,0⟩
noncomputable def FF:Xs->hH
 | .Return (al e) _=>e
 | _=>.Constant .none 0 ⟨0,0,0,0⟩
abbrev RX(P:kH)(w:pe)(K:ft)(mg:e6->Option cA)(base:ph)(f:dn)(cdv:cA)(A:qp)(outer:List ZO)(s:ey)(H:Hp)(E:XK):Cx:=(iE bj P w K mg base ["_law_web_here","_law_due_here","_law_kept","_law_found","_law_three"] "_law_right" (aP k0) f cdv A outer s H E).jA
theorem HZ:fN k0=[e9 0,e9 1]++[e9 2,e9 3,e9 4,e9 5,e9 6]:=ρ
section
variable{f:dn}{cdv:cA}{A:qp}{outer:List ZO}{s:ey}{H:Hp}{E:XK}
theorem Ug(T:Txt mg){a:a8}(c:aY P w K mg base "_law_due" 3 (aI K a))(d:yb a)(e:bY 5 (A.deeper<|Xc "_law_right" (aP k0) s.heap.objs.size f cdv)) :
  ∃b,nI (RX P w K mg base f cdv A outer s H E) [e9 0,e9 1] b/\∀web:ay,ba web->b [.D (.L<|web.map pairD),.no,.no,.no,.no]=al (.next [.D (.L<|web.map pairD),.O<|.L<|(iI (lY web)<|namesW web).map aF,.O<|.L<|web.map pairD,.no,.no]):=by
 have nd:=pX.nd;cases T;refine'⟨_,?B,?C⟩
 case B=>walk_at "dskc"
 clear c e;intro web h;have bO:=h.bO;refine vH ?_;refine aj<|aH (aO (af ρ ao)<|d web h) ρ<|aq ?_;refine aj<|aH (gS (enc:=pairD) (xs:=web) (fun p=>[.no,.D<|.str p.1,.D<|.L<|p.2.map .str]) (fun p=>pairD p) (da ρ) ρ (by unfold dk;lia) ?_ (fun p _=>gv (af ρ<|af (ai (aO (af ρ ao) ρ) ρ) ao) (by show 2<=dk;unfold dk;decide))<|fun _ _=>rfl) ρ<|aq<|aZ ρ;rintro y _ Z (rfl|⟨z,rfl⟩)<;>rfl
theorem QC(T:Txt mg)(hr:bY 5 (A.deeper<|Xc "_law_right" (aP k0) s.heap.objs.size f cdv)) :
  ∃a,DT (RX P w K mg base f cdv A outer s H E) (Ff<|e9 3) a/\∀(web:ay) (L:List (List e6)),ba web->(∀c∈L,∀x∈c,bf x)->a [.D (.L<|web.map pairD),.D<|.L<|L.map aF,.D<|.L<|web.map pairD,.D<|.L<|L.map aF,.no]=al (false,[.D (.L<|web.map pairD),.D<|.L<|L.map aF,.D<|.L<|web.map pairD,.D<|.L<|L.map aF,.no]):=by
 have nd:=pX.nd;cases T;refine'⟨_,?B,?C⟩
 case B=>walk_at "T"
 intro web L h tx;have b:bJ (.L<|web.map pairD)=bi:=Lc fun p d=>⟨h.txt<|ι<|bg.2 ⟨p,d,ρ⟩,fun n e=>h.txt ((h.rg p d).2.2 n e).1⟩;have g:dR true (.L<|web.map pairD) (.L<|web.map pairD)=al (.D<|.bl false):=by rw[qj b b,iF,FH];rfl
 have i:dR true (.L<|L.map aF) (.L<|L.map aF)=al (.D<|.bl false):=by rw[qj (pf tx) (pf tx),iF,zg];rfl
 exact v_or (mG<|fq ρ ρ)<|nz ρ<|v_or (bM<|au ρ ρ i)<|nz ρ<|bM<|au ρ ρ g
theorem IC(T:Txt mg)(q1:aY P w K mg base "bars" 5 (aI K tO))(hr:bY 5 (A.deeper<|Xc "_law_right" (aP k0) s.heap.objs.size f cdv)) :
  ∃i,DE (RX P w K mg base f cdv A outer s H E) (FF<|e9 6) i/\∀(web:ay) (L:List (List e6)) (a b d:Slot),ba web->cv web->dI web=L->(∀c∈L,∀x∈c,bf x)->i [.D (.L<|web.map pairD),.D<|.L<|L.map aF,a,b,d]=al (.D<|.bl true,[.D (.L<|web.map pairD),.D<|.L<|L.map aF,a,b,d]):=by
 have nd:=pX.nd;cases T;refine'⟨_,?B,?C⟩
 case B=>walk_at "E"
 intro web L a b d h hw e tx;have j:=rQ (g:=fun web=>.O<|.L<|(dI web).map aF) h hw;rw[e] at j;have k:dR false (.L<|L.map aF) (.L<|L.map aF)=al (.D<|.bl true):=by rw[v_eq (pf tx) (pf tx),iF,zg]
 exact au (ai (aO (af ρ ao) j) ρ) ρ k
abbrev Na(K:ft):TS:=rK (pW K<|ff 3) (gV 4)<|sd<|mn K "list" uc (ff 4)<|j9 (tC<|.str "zz") j6
theorem Ph{b:TT}{c:TE}{a:List V}{d:XK}(g:PS (RX P w K mg base f cdv A outer s H E) (e9 2) (nF (zj (tM K) a d<|j9 (ff 0) j6)<|gV 3))(h:PT (RX P w K mg base f cdv A outer s H E) (Ff<|e9 3) b)(j:PE (RX P w K mg base f cdv A outer s H E) (FF<|e9 6) c) :
  ∃k,dF (RX P w K mg base f cdv A outer s H E) [e9 2,e9 3,e9 4,e9 5,e9 6] (kY (nF (zj (tM K) a d<|j9 (ff 0) j6)<|gV 3) (kY (EX b k Bp) fun D σ H'=>∃e,kf (RX P w K mg base f cdv A outer s H E).ki H' e/\kY (Na K) (kY (sd<|mn K "list" uc (ff 3)<|j9 (GD j6) j6)<|x5 c) D σ e)):=by
 have nd:=pX.nd;exact⟨_,jq g<|jq (D8 h (oE<|vC F0) F4)<|dF.yK<|jq (sQ XR ρ (oH<|pv 3) (mI (i:=4) nd ρ (by first|exact Ye ρ|exact X3 ρ))<|oE<|vR<|lQ KX X0 YG vm (pv 4)<|gw yg il)<|jq (vR<|lQ KX X0 YG vm (pv 3)<|gw (BN il) il)<|oE<|vC j⟩
noncomputable def j0(M:dn->Prop)(H:Hp):Hp:=fun b=>haveI:=fun p=>XU p;if M b then (match H b with|some (.aV o<|.L xs)=>al (.L xs)|x=>x) else H b
theorem Om{X:Cx}{M:dn->Prop}{H:Hp}(h:∀b,M b->∀o u,X.ki b≠al (.aV o u)):kf X.ki H (j0 M H):=by
 intro b;unfold j0;by_cases a:M b
 ·rw[if_pos a];split
  ·rename_i o xs e;exact τ ⟨h b a,o,xs,e,ρ⟩
  exact ι ρ
 rw[if_neg a];exact ι ρ
theorem CN{M:dn->Prop}{H:Hp}{b:dn}(h:¬M b):j0 M H b=H b:=if_neg h
theorem MI{M:dn->Prop}{H:Hp}{b:dn}{xs:List V}(h:M b)(r:Rd H b (.L xs)):j0 M H b=al (.L xs):=by unfold j0;rw[if_pos h];rcases r with r|⟨o,r⟩<;>rw[r]
theorem Ms{g:Hp×Hp}{Z:DS}{σ σ':St}{H H' Hi:Hp}(S:SR K g (fun _=>am) Z σ H Hi)(no:∀(i:Nat) t,Z[i]?=al t->t=.no\/∃d,t=.D d)(h:ag Hi H')(k:ag g.1 H')(l:∀(i:Nat) d,Z[i]?=al (.D d)->σ'[i]?=σ[i]?)(m:σ'.length=σ.length):SR K g (fun _=>am) Z σ' H' Hi where
 sub:=h
 keep:=fun b o e _=>k b o e
 dB:=fun p ⟨_,z⟩=>by exact nO z
 D:=fun i d e=>by obtain⟨v,a,b⟩:=S.D i d e;exact⟨v,(l i d e).trans a,b⟩
 O:=fun i c e=>by rcases no i _ e with z|⟨d,z⟩<;>cases z
 io:=fun i c e=>by rcases no i _ e with z|⟨d,z⟩<;>cases z
 ne:=fun i j c c' p a b=>by rcases a with a|a<;>rcases no i _ a with z|⟨d,z⟩<;>cases z
 len:=by rw[m];exact S.len
 nw:=S.nw
theorem SM{web:ay}(h:ba web):(dI web).length<=12*144:=by
 have bO:=h.bO;have a:(namesW web).length<=12:=by rw[show (namesW web).length=_ from (gn _ _).length_eq,eW,bt];show _+4<=12;lia
 exact ia (lX fun b _=>Hk a)<|Xb _ a
theorem GZ{web:ay}(h:ba web):∀c∈dI web,c.length=3/\∀x∈c,bf x:=fun c e=>by
 have g:∀n∈namesW web,bf n:=fun n j=>h.txt<|ee.1<|(gn _ _).mem_iff.1 j;obtain⟨a,k,e⟩:=zc.1 e;obtain⟨b,i,e⟩:=zc.1 e;obtain⟨d,hd,rfl⟩:=bg.1 e;have i:=(f'.1 i).1;have hd:=(f'.1 (f'.1 (f'.1 hd).1).1).1;refine⟨ρ,fun x hx=>?_⟩;simp only[eS,fv,or_false] at hx;rcases hx with rfl|rfl|rfl
 ·exact g _ k
 ·exact g _ i
 exact g _ hd
theorem Po{c:Bool}{A B:Prop}(h:c=bn)(b:B):if c=bi then A else B:=by rw[h];exact b
noncomputable def EI:a8:=pI fun _=>.D<|.bl true
end
theorem SS(T:Txt mg)(US:∀web,ba web->cv web->dI web=iI (lY web) (namesW web)){W:a8}(q1:aY P w K mg base "_law_due" 3 (aI K W))(s1:yb W)(q2:aY P w K mg base "bars" 5 (tM K)){f:dn}{fd:kq}(F:bz K "_law_right" "_law_right" k0 f fd):br P w K mg base bj 6 f fd ["_law_web_here"] (aI K EI):=by
 refine F.ok pX (fun vs H Q E h=>?_)<|fun cdv A outer s H vs Q E J h=>?_
 ·obtain⟨Hi,ds,r,_,rp,e,_⟩:=h;obtain⟨web,rfl,_⟩:=yV e;rw[rp.length];rfl
 obtain⟨Hi,ds,r,sm,rp,e,kk⟩:=h;obtain⟨web,rfl,G,hw,rfl⟩:=yV e;have Y:aY P w K mg base "bars" 5 (aI K tO):=by obtain⟨fb,Z,UW,S,mb,kb,bb⟩:=q2.is;exact⟨fb,Z,UW,S.imp Gv,mb,kb,bb⟩
 have nd:=pX.nd;obtain⟨fA,dA,eA⟩:=Ug (f:=f) (cdv:=cdv) (outer:=outer) (H:=H) (E:=E) T q1 s1 J;obtain⟨fT,⟨tT,pT,qT⟩,eT⟩:=QC (P:=P) (w:=w) (K:=K) (base:=base) (f:=f) (cdv:=cdv) (outer:=outer) (H:=H) (E:=E) T J;obtain⟨fE,⟨tE,pE,qE⟩,eE⟩:=IC (f:=f) (cdv:=cdv) (outer:=outer) (H:=H) (E:=E) T Y J;obtain⟨hg,CX,k,fb,Z,pn,S,U0,hm,hk,m,hx⟩:=aY.has (X:=RX P w K mg base f cdv A outer s H E) q2 ρ J;obtain⟨tl,pR⟩:=Ph (BV (i:=3) nd ρ (Ye ρ)<|Ah S U0 hg hm hk m .nil hx<|gw (pv 0) il) pT pE;obtain⟨tA,pA,qA⟩:=dA.ex _ _ pR;simp only[<-HZ] at pA;refine⟨tA,pA,?_⟩;clear dA pA pT pE pR q1 q2 Y S hm m hk hx;refine qA (H,Hi) (fun _=>am) _ _ H Hi _ _ (eA web G) (yM (N:=["_law_web_here","_law_due_here","_law_kept","_law_found","_law_three"]) sm rp) fun y H1 Hi1 S1 U4=>?_;obtain⟨Hi2,_,_,S2,U5,_⟩:=S1.kB (i:=1) ρ;obtain⟨be,_,_,g,U6,_⟩:=S2.kB (i:=2) ρ;rw[<-US web G hw] at g;have g:SR K (H,Hi) (fun _=>am) [.D (.L<|web.map pairD),.D<|.L<|(dI web).map aF,.D<|.L<|web.map pairD,.no,.no] y H1 be:=g;have lP:=SM G;have tP:=GZ G;obtain⟨v0,z0,r0⟩:=g.D 0 _ ρ;obtain⟨v1,z1,r1⟩:=g.D 1 _ ρ;obtain⟨v2,z2,r2⟩:=g.D 2 _ ρ;have l5:y.length=5:=g.len.symm;refine⟨v0,z0,be,web,g.sub,⟨v0,[],ρ,r0,ρ⟩,G,hw,fun p U B rs a1 a2 a3 a4 n1 n2 hp nw=>?_⟩;have O:p∉rs:=fun h=>by obtain⟨i,hi⟩:=uz h;obtain⟨l,hl⟩:∃l,(dI web)[i]?=al l:=⟨_,cn (by rw[<-nw.len];exact (cm.1 hi).1)⟩;rcases nw.at_ i p l hi hl with z|⟨o,z⟩<;>rw[n2] at z<;>exact nO z
 have C:ag B (upd B p<|.L<|rs.map V.ref):=jU n2;have Va:ag (upd B p<|.L<|rs.map V.ref) U:=fun b o e=>by
  by_cases m:b=p
  ·subst m;rw[aT] at e;rw[hp];exact e
  rw[ax m] at e;exact a3 b o e
 have Da:tS K (upd B p<|.L<|rs.map V.ref) [al (.L<|web.map pairD),al<|.L<|(dI web).map aF,al<|.L<|web.map pairD,al<|.L<|(dI web).map aF,am] (y.set 3<|al<|.ref p):=⟨by simp only[nL,l5];rfl,fun i d e=>by
  match i,e with
  | 0,e=>cases e;exact⟨v0,by rw[gD (by decide)];exact z0,r0.mono<|a2.trans C⟩
  | 1,e=>cases e;exact⟨v1,by rw[gD (by decide)];exact z1,r1.mono<|a2.trans C⟩
  | 2,e=>cases e;exact⟨v2,by rw[gD (by decide)];exact z2,r2.mono<|a2.trans C⟩
  | 3,e=>cases e;exact⟨.ref p,ka (by omega),p,_,ρ,ι aT,(nw.mono C).yL⟩
  | 4,e=>cases e
  | n+5,e=>exact nO e⟩
 refine qT (U,upd B p<|.L<|rs.map V.ref) (fun _=>am) _ _ U _ _ _ _ (eT web _ G fun c hc=>(tP c hc).2) (Da.sr Va) fun D Hi6 S6 s6=>?_;refine Po ρ ?_;have k3:ag U D:=fun b o e=>S6.keep b o e fun ⟨_,z⟩=>by cases z
 have Vd:∀b o,H1 b=al o->b∉rs/\b≠p:=fun b o e=>⟨fun z=>(by rw[nw.nw b z] at e;exact nO e),fun z=>(by rw[z,n1] at e;exact nO e)⟩;have Ve:D p=al (.L<|rs.map V.ref):=k3 _ _ hp;have Vf:∀(i:Nat) r,rs[i]?=al r->∃ys,ys.length=3/\j0 (·∈rs) D r=al (.L ys):=fun i r e=>by obtain⟨l,hl⟩:∃l,(dI web)[i]?=al l:=⟨_,cn (by rw[<-nw.len];exact (cm.1 e).1)⟩;exact⟨_,by rw[bt];exact (tP l<|eH hl).1,MI (eH e)<|Rd.mono S6.sub<|Rd.mono s6<|Rd.mono C<|nw.at_ i r l e hl⟩
 have z3:(y.set 3<|al<|V.ref p)[3]?=al (al<|.ref p):=ka (by omega);refine⟨j0 (·∈rs) D,Om fun r J o u e=>?_,?_⟩
 ·have:=g.keep r _ e fun ⟨_,z⟩=>by exact nO z
  rw[nw.nw r J] at this;exact nO this
 have R:j0 (·∈rs) D p=al (.L<|rs.map V.ref):=(CN O).trans Ve;have Vh:∀b,b∉rs->j0 (·∈rs) D b=D b:=fun b m=>CN m
 have lr:=nw.len;generalize j0 (·∈rs) D=H4 at *;refine⟨_,z3,p,ρ,⟨_,bA.of R⟩,wk (xs:=rs.map V.ref) (fun i σ H'=>σ.length=5/\(∀j,j≠4->σ[j]?=(y.set 3<|al<|V.ref p)[j]?)/\(∀b,b∉rs->H' b=H4 b)/\∀(j:Nat) r,rs[j]?=al r->∃ys,ys.length<=3+i/\H' r=al (.L ys)) ⟨by rw[nL];exact l5,fun _ _=>rfl,fun _ _=>rfl,fun j r e=>by obtain⟨ys,a,b⟩:=Vf j r e;exact⟨ys,by lia,b⟩⟩ ?_ ?_ ?_⟩
 ·rintro i σ H' _ ⟨_,_,L,_⟩;exact bA.of<|(L p O).trans R
 ·rintro i x σ H' hx ⟨c1,M,L,c4⟩;rw[c6] at hx;obtain⟨r,er,rfl⟩:=gW.1 hx;obtain⟨ys,ly,hy⟩:=c4 i r er;have hi:=(cm.1 er).1;refine⟨.ref r,ka (by lia),ι ⟨ρ,ys,bA.of hy⟩,r,ys,.str "zz",ρ,ρ,hy,by unfold dk;lia,by rw[nL];exact c1,fun j hj=>by rw[gD (Ne.symm hj)];exact M j hj,fun b m=>?_,fun j r' e=>?_⟩
  ·rw[ax fun z=>m (by rw[z];exact eH er)];exact L b m
  by_cases UB:r'=r
  ·subst UB;exact⟨_,by rw[eW];show _+1<=_;lia,aT⟩
  obtain⟨zs,lz,hz⟩:=c4 j r' e;exact⟨zs,by lia,by rw[ax UB];exact hz⟩
 rintro σ H' ⟨c1,M,L,c4⟩;have I:=(L p O).trans R;refine⟨_,(M 3 (by decide)).trans z3,ι ⟨ρ,_,bA.of I⟩,pd _,fun q hq=>⟨p,_,_,ρ,ρ,by rw[ax fun z=>by simp only[z,hq] at I;exact nO I];exact I,by rw[bt];unfold dk;lia,?_⟩⟩;have UC:∀b o,H1 b=al o->upd (upd H' q<|.L []) p (.L<|rs.map V.ref++[.ref q]) b=al o:=fun b o e=>by
  obtain⟨x1,x2⟩:=Vd b o e;have h':H' b=al o:=by simp only[L b x1,Vh b x1];exact k3 b o<|a1 b o e
  rw[ax x2,ax fun z=>by simp only[z,hq] at h';exact nO h'];exact h'
 have S7:=Ms g (σ':=σ) (H':=upd (upd H' q<|.L []) p<|.L<|rs.map V.ref++[.ref q]) (fun i t e=>by
  match i,e with
  | 0,e=>obtain rfl:=sO e;exact τ ⟨_,ρ⟩
  | 1,e=>obtain rfl:=sO e;exact τ ⟨_,ρ⟩
  | 2,e=>obtain rfl:=sO e;exact τ ⟨_,ρ⟩
  | 3,e=>obtain rfl:=sO e;exact ι ρ
  | 4,e=>obtain rfl:=sO e;exact ι ρ
  | n+5,e=>exact nO e) (fun b o e=>UC b o<|g.sub b o e) (fun b o e=>UC b o (g.keep b o e fun ⟨_,z⟩=>by cases z)) (fun i d e=>by
  match i,e with
  | 0,e=>rw[M 0 (by decide),gD (by decide)]
  | 1,e=>rw[M 1 (by decide),gD (by decide)]
  | 2,e=>rw[M 2 (by decide),gD (by decide)]
  | 3,e=>cases e
  | 4,e=>cases e
  | n+5,e=>exact nO e) (by rw[c1,l5])
 refine qE (H,Hi) (fun _=>am) _ _ _ _ _ _ _ (eE web _ _ _ _ G hw ρ fun c hc=>(tP c hc).2) S7 fun v H8 Vn S8 s8 rr=>?_;exact kk v H8 Vn (fun b o e=>S8.keep b o e fun ⟨_,z⟩=>by cases z) (U4.trans<|U5.trans<|U6.trans s8) S8.sub (fun q o e=>S8.nw q o e) rr
theorem ou{l:List e6}{u v:e6}:aE l u v ↔ ∃k,k<l.length/\u=dE l k/\v=l.getD k "":=by
 have key:∀{j:Nat},j<l.length->l[j]?=al (l.getD j ""):=fun {j} d=>by rw[cn d,gm,cn d];rfl
 constructor
 ·rintro⟨i,f,g⟩;have b:=(cm.1 f).1;have a:(i+1)%l.length<l.length:=Xx _ (by omega);refine⟨(i+1)%l.length,a,?_,?_⟩
  ·have e:((i+1)%l.length+l.length-1)%l.length=i:=by
    by_cases z:i+1=l.length
    ·rw[z,Dt,I9,hS (by omega)];omega
    rw[hS (show i+1<l.length by omega),show i+1+l.length-1=i+l.length by omega,Yc,hS b]
   unfold dE;rw[e];exact Option.some.inj<|f.symm.trans<|key b
  exact Option.some.inj<|g.symm.trans<|key a
 rintro⟨k,a,rfl,rfl⟩;have b:(k+l.length-1)%l.length<l.length:=Xx _ (by omega);refine⟨(k+l.length-1)%l.length,key b,?_⟩;have e:((k+l.length-1)%l.length+1)%l.length=k:=by
  cases k with
  | zero =>
   have c:(0+l.length-1)%l.length=l.length-1:=by rw[I9,hS (by omega)]
   rw[c,show l.length-1+1=l.length by omega,Dt]
  | succ k =>
   have c:(k+1+l.length-1)%l.length=k:=by rw[show k+1+l.length-1=k+l.length by omega,Yc,hS (by omega)]
   rw[c,hS a]
 rw[e];exact key a
theorem P8{web:ay}{c:List e6}:c∈dm web ↔ c∈bU web:=by
 unfold dm bU;rw[zc,zc];refine exists_congr fun p=>and_congr_right fun hp=>?_;rw[bg,bg];constructor
 ·rintro⟨k,a,rfl⟩;exact⟨(dE p.2 k,p.2.getD k ""),oF.2<|ou.2 ⟨k,tm.1 a,ρ,ρ⟩,ρ⟩
 rintro⟨⟨u,v⟩,h,rfl⟩;obtain⟨k,a,rfl,rfl⟩:=ou.1<|oF.1 h;exact⟨k,tm.2 a,ρ⟩
theorem K'{web:ay}{c:List e6}:c∈(dm web).map bp ↔ c∈df web:=by unfold df;rw[(v9 _).1,bg,bg];exact exists_congr fun d=>and_congr_left fun _=>P8
def jQ(web:ay)(a b c:e6):Bool:=bw web a b&&bw web a c&&bw web b c&&!bd ([a,b,c]∈df web)
theorem Bn{web:ay}(h:ba web){a b c:e6}(l:a∈bu)(m:b∈bu)(n:c∈bu)(d:bw web a b=bi)(f:bw web a c=bi)(g:bw web b c=bi):False:=by
 obtain⟨i,hi,rfl⟩:=kI l;obtain⟨j,hj,rfl⟩:=kI m;obtain⟨k,hk,rfl⟩:=kI n;have nr:∀i,aA i∉web.map (·.1):=fun i z=>by obtain⟨p,o,e⟩:=bg.1 z;have:=h.nm p o;rw[e,wq] at this;cases this
 unfold bw at d f g;rw[if_neg (nr _),if_neg<|nr _,mO,mO,aan,decide_eq_true_eq,decide_eq_true_eq] at d f g
 all_goals first|assumption|omega
theorem TR{web:ay}(h:ba web){a b c:e6}(j:a∈namesW web)(k:b∈namesW web)(l:c∈namesW web):lY web a b c=jQ web a b c:=by
 have m:∀{n},n∈namesW web->n∈web.map (·.1)\/n∈bu:=fun {n} i=>ee.1<|(gn _ _).mem_iff.1 i;unfold lY jQ;rw[decide_eq_decide.2 (K' (c:=[a,b,c]))];rw[t8];simp only[gj];constructor
 ·rintro⟨⟨⟨⟨_,z⟩,d⟩,f⟩,g⟩;exact⟨⟨⟨d,f⟩,g⟩,z⟩
 rintro⟨⟨⟨d,f⟩,g⟩,z⟩;refine⟨⟨⟨⟨decide_eq_true ?_,z⟩,d⟩,f⟩,g⟩;rw[ql];intro e;have no:∀n∈[a,b,c],n∉web.map (·.1):=fun n i z=>by have:n∈[a,b,c].filter fun n=>bd (n∈web.map (·.1)):=f'.2 ⟨i,decide_eq_true z⟩;rw[e] at this;cases this
 exact Bn h ((m j).resolve_left (no a (by simp))) ((m k).resolve_left (no b (by simp))) ((m l).resolve_left (no c (by simp))) d f g
theorem sV(P:e6->e6->Bool)(a b:e6)(l:List e6):fg P a (b::l)=((l.filter<|P b).map fun c=>[a,b,c])++fg P a l:=by unfold fg;rw[gi,X8,W9,Z8];rfl
theorem qQ(P:e6->e6->e6->Bool)(a:e6)(l:List e6):iI P (a::l)=fg (P a) a l++iI P l:=by unfold iI;rw[gi,X8,W9,Z8];rfl
theorem sZ{web:ay}(h:ba web):(namesW web).Pairwise fun a b=>gtB a b=bi:=by have s:=uE (web.map (·.1)++bu);unfold kG at s;refine (s.and<|B' h).imp fun {a b} ⟨s,n⟩=>?_;unfold gtB;rw[decide_eq_true_eq];exact aaa fun z=>n<|Bf (jd.2 s)<|jd.2 z
theorem Ab(a:e6):gtB a a=bn:=by unfold gtB;rw[decide_eq_false_iff_not];exact XN _
theorem Ed{web:ay}{a:e6}{l:List e6}(h:∀b∈l,gtB a b=bi):cJ web (a::l) a=l.filter (bw web a):=by unfold cJ;rw[u4,Ab];refine W' fun b c=>?_;rw[h b c,Zy]
theorem Hl{web:ay}{a b:e6}{l:List e6}(h:gtB a b=bi):cJ web (a::l) b=cJ web l b:=by unfold cJ;rw[u4,rF h];rfl
theorem BM{web:ay}{a:e6}:∀{l:List e6},l.Pairwise (fun a b=>gtB a b=bi)->(l.filter<|bw web a).flatMap (iA web (df web) (l.filter<|bw web a) a)=fg (jQ web a) a l
 | [],_=>rfl
 | b::l,h=>by
  obtain⟨e,g⟩:=tj.1 h;have f:=BM (web:=web) (a:=a) g;rw[sV,u4];by_cases t:bw web a b=bi
  ·rw[if_pos t,W9];have i:iA web (df web) (b::l.filter (bw web a)) a b=(l.filter<|jQ web a b).map fun c=>[a,b,c]:=by
    unfold iA;rw[Ed fun c d=>e c (f'.1 d).1,ZG,ZG]
    congr 1;refine W' fun c _=>?_
    unfold jQ;rw[t,Zy,Yn<|bw web a c,XO,XO,Yn<|bw web b c];cases bw web a c<;>cases bw web b c<;>simp
   have j:(l.filter<|bw web a).flatMap (iA web (df web) (b::l.filter (bw web a)) a)=(l.filter<|bw web a).flatMap (iA web (df web) (l.filter<|bw web a) a):=by
    rw[XS,XS];congr 1;refine wm fun c d=>?_
    unfold iA;rw[Hl (e c (f'.1 d).1)]
   rw[i,j,f]
  rw[if_neg t,f];have:l.filter (jQ web a b)=[]:=Y6.2 fun c _ z=>by unfold jQ at z;simp only[gj] at z;exact t z.1.1.1
  rw[this];rfl
theorem we{web:ay}:∀{l:List e6},l.Pairwise (fun a b=>gtB a b=bi)->l.flatMap (fW web (df web) l)=iI (jQ web) l
 | [],_=>rfl
 | a::l,h=>by
  obtain⟨d,e⟩:=tj.1 h;have f:=we (web:=web) e;rw[qQ,W9];have g:fW web (df web) (a::l) a=fg (jQ web a) a l:=by unfold fW;rw[Ed d];exact BM e
  have i:l.flatMap (fW web (df web) (a::l))=l.flatMap (fW web (df web) l):=by
   rw[XS,XS];congr 1;refine wm fun c j=>?_
   unfold fW;rw[Hl (d c j)]
  rw[g,i,f]
theorem BY{P Q:e6->e6->Bool}{a:e6}:∀{l:List e6},(∀b∈l,∀c∈l,P b c=Q b c)->fg P a l=fg Q a l
 | [],_=>rfl
 | b::l,h=>by rw[sV,sV,BY fun x hx y d=>h x (eR _ hx) y<|eR _ d,W' fun c e=>h b fk c<|eR _ e]
theorem DV{P Q:e6->e6->e6->Bool}:∀{l:List e6},(∀a∈l,∀b∈l,∀c∈l,P a b c=Q a b c)->iI P l=iI Q l
 | [],_=>rfl
 | a::l,h=>by rw[qQ,qQ,DV fun x hx y d z e=>h x (eR _ hx) y (eR _ d) z<|eR _ e,BY fun b f c g=>h a fk b (eR _ f) c<|eR _ g]
theorem NR{web:ay}(h:ba web):dI web=iI (lY web) (namesW web):=by unfold dI;rw[we (sZ h)];exact DV fun a d b e c f=>(TR h d e f).symm
theorem Ec{web:ay}{p:e6×List e6}(a:p∈web){u v:e6}(s:aE p.2 u v):bp [p.1,u,v]∈df web:=by unfold df;rw[(v9 _).1];exact bg.2 ⟨[p.1,u,v],zc.2 ⟨p,a,bg.2 ⟨(u,v),oF.2 s,ρ⟩⟩,ρ⟩
theorem Sy{web:ay}{c:List e6}(h:c∈df web):∃p∈web,∃u v,aE p.2 u v/\c=bp [p.1,u,v]:=by unfold df at h;rw[(v9 _).1] at h;obtain⟨d,hd,rfl⟩:=bg.1 h;obtain⟨p,a,hd⟩:=zc.1 hd;obtain⟨⟨u,v⟩,b,rfl⟩:=bg.1 hd;exact⟨p,a,u,v,oF.1 b,ρ⟩
theorem BZ{P:e6->e6->Bool}{a b c:e6}:∀{l:List e6},l.Pairwise (fun a b=>gtB a b=bi)->b∈l->c∈l->gtB b c=bi->P b c=bi->[a,b,c]∈fg P a l
 | [],_,h,_,_,_=>by cases h
 | d::l,s,i,e,g,h=>by
  obtain⟨j,k⟩:=tj.1 s;rw[sV,ee];rcases eS.1 i with rfl|f
  ·refine ι (bg.2 ⟨c,f'.2 ⟨?_,h⟩,ρ⟩);rcases eS.1 e with rfl|e
   ·rw[Ab] at g;cases g
   exact e
  refine τ (BZ k f ?_ g h);rcases eS.1 e with rfl|e
  ·have:=rF<|j b f;rw[g] at this;cases this
  exact e
theorem Cc{P:e6->e6->e6->Bool}{a b c:e6}:∀{l:List e6},l.Pairwise (fun a b=>gtB a b=bi)->a∈l->b∈l->c∈l->gtB a b=bi->gtB b c=bi->P a b c=bi->[a,b,c]∈iI P l
 | [],_,h,_,_,_,_,_=>by cases h
 | d::l,s,k,m,q,n,i,h=>by
  obtain⟨r,o⟩:=tj.1 s;have out:∀{x y},y∈d::l->gtB x y=bi->x∈d::l->y∈l:=fun {x y} j g hx=>by
   rcases eS.1 j with rfl|j
   ·rcases eS.1 hx with rfl|hx
    ·rw[Ab] at g;cases g
    have:=rF<|r x hx;rw[g] at this;cases this
   exact j
  have e:=out m n k;have f:=out q i m;rw[qQ,ee];rcases eS.1 k with rfl|p
  ·exact ι<|BZ o e f i h
  exact τ<|Cc o p e f n i h
theorem DK{P:e6->e6->e6->Bool}:∀{l:List e6},l.Pairwise (fun a b=>gtB a b=bi)->(∀a∈l,∀b∈l,∀c∈l,gtB a b=bi->gtB b c=bi->P a b c=bn)->iI P l=[]
 | [],_,_=>rfl
 | a::l,s,h=>by
  obtain⟨n,e⟩:=tj.1 s;rw[qQ,DK e fun x hx y o z p=>h x (eR _ hx) y (eR _ o) z<|eR _ p,sb];have key:∀{m:List e6},m.Pairwise (fun a b=>gtB a b=bi)->(∀x∈m,x∈l)->fg (P a) a m=[]:=by
   intro m;induction m with
   | nil=>intros;rfl
   | cons b m q =>
    intro sm d;obtain⟨f,g⟩:=tj.1 sm;rw[sV,q g fun x hx=>d x<|eR _ hx,sb];have:m.filter (P a b)=[]:=Y6.2 fun c i z=>by have j:=d b fk;have k:=d c<|eR _ i;rw[h a fk b (eR _ j) c (eR _ k) (n b j) (f c i)] at z;cases z
    rw[this];rfl
  exact key e fun x hx=>hx
theorem zy{a b c:e6}(d:gtB a b=bi)(e:gtB b c=bi){l:List e6}(p:l.Perm [a,b,c]):bp l=[a,b,c]:=by
 refine (rN p.symm ?_).symm;have n:∀{x y},gtB x y=bi->¬(y.cps.toList<x.cps.toList):=fun {x y} h=>by have:=rF h;unfold gtB at this;exact of_decide_eq_false this
 have f:gtB a c=bi:=by unfold gtB at *;rw[decide_eq_true_eq] at *;exact YS d e
 unfold kG;simp only[tj,eS,fv,or_false,List.Pairwise.nil,and_true];exact⟨fun x hx=>by rcases hx with rfl|rfl;exact n d;exact n f,fun x hx=>by rw[hx];exact n e,fun x hx=>hx.elim⟩
theorem qY{web:ay}(h:ba web){a b:e6}(c:a∈web.map (·.1))(t:bw web a b=bi):b∈cu web a:=by unfold bw at t;rw[if_pos c] at t;exact of_decide_eq_true t
theorem uG{web:ay}(h:ba web)(hw:cv web){a b:e6}(d:b∈web.map (·.1))(t:bw web a b=bi):a∈cu web b:=by
 by_cases c:a∈web.map (·.1)
 ·exact hw.C.sym a c b d<|qY h c t
 unfold bw at t;rw[if_neg c,if_pos d] at t;exact of_decide_eq_true t
theorem wc{web:ay}(hw:cv web){a b:e6}(t:bw web a b=bi):bw web b a=bi:=by
 unfold bw at *;by_cases d:a∈web.map (·.1)
 ·rw[if_pos d] at t;by_cases c:b∈web.map (·.1)
  ·rw[if_pos c];exact decide_eq_true<|hw.C.sym a d b c<|of_decide_eq_true t
  rw[if_neg c,if_pos d];exact t
 rw[if_neg d] at t;by_cases c:b∈web.map (·.1)
 ·rw[if_pos c] at t ⊢;exact t
 rw[if_neg c] at t ⊢;rw[if_neg d,Bool.or_comm];exact t
theorem AU{rs:Fl}(F:bH rs)(hm:oD rs=bn){c:ay}(t:qq (iU rs) c)(h:ba c)(hw:cv c){x n m:e6}(hx:x∈c.map (·.1))(Z:n∈cu c x)(UD:m∈cu c x)(O:bw c n m=bi):bp [x,n,m]∈df c:=by
 have T:=F.EM hm;have nd:=F.yQ;rw[m7] at nd;have ob:∀{a:Ob},a∈rs.map (·.2)++walls (cy rs)->∃y∈allR rs,y.2=a:=fun {a} h=>by rw[<-m7] at h;exact bg.1 h
 have H:∀{x:e6×Ob},x∈rs->x∈allR rs:=fun h=>ky.2<|ι h;have rg:∀p∈c,∃y∈rs,y.1=p.1/\gd ((bq (rs.map (·.2)++walls (cy rs)) y.2).map (lb rs)) p.2:=fun p d=>by obtain⟨q,A,e,Q⟩:=t.2 p d;obtain⟨y,g,rfl⟩:=bg.1 A;refine⟨y,g,e,?_⟩;rw[<-F.Bk g];exact Q
 have I:∀p∈c,∀y∈rs,y.1=p.1->∀{u},u∈p.2->∃z∈allR rs,z.1=u/\∃k,k<4/\Up (aa k y.2) (aa k z.2):=fun p d y g D u hu=>by obtain⟨y',UK,UL,Q⟩:=rg p d;have:=F.vv UK g<|UL.trans D.symm;subst this;obtain⟨o,ho,rfl⟩:=bg.1<|Q.perm.mem_iff.1 hu;obtain⟨UM,k,B,up⟩:=iB.1 ho;obtain⟨z,J,rfl⟩:=ob UM;exact⟨z,J,(F.kd J).symm,k,B,up⟩
 obtain⟨p,d,rfl⟩:=bg.1 hx;rw[cM h.nd d] at Z UD;obtain⟨X,R,eX,Q⟩:=rg p d;obtain⟨N,E,rfl,k,B,un⟩:=I p d X R eX Z;obtain⟨M,G,rfl,j,L,S⟩:=I p d X R eX UD;have nb:∀{Y:e6×Ob},Y∈allR rs->Nb (cy rs) (rs.map (·.2)) Y.2:=fun {Y} W=>by
  have:Y.2∈rs.map (·.2)++walls (cy rs):=by rw[<-m7];exact bg.2 ⟨Y,W,ρ⟩
  exact ee.1 this
 have v:∀{Y:e6×Ob},Y∈allR rs->Y.2.l<Y.2.r/\Y.2.b<Y.2.t:=fun W=>(nb W).ok T (wU F);have UE:X.2∈rs.map (·.2):=bg.2 ⟨X,R,ρ⟩;have UG:∀{U V:e6×Ob},U∈allR rs->V∈allR rs->bQ X.2 U.2 V.2->aE p.2 U.1 V.1:=fun {U V} hU hV f=>by have s:=((T.dC (wU F) UE nd (nb hU)<|nb hV).2 f).map (lb rs);rw[F.kd hU,F.kd hV] at s;exact Q.succ s
 have out:bQ X.2 N.2 M.2\/bQ X.2 M.2 N.2->bp [p.1,N.1,M.1]∈df c:=fun f=>by
  rcases f with f|f
  ·exact Ec d<|UG E G f
  rw[uK (show [p.1,N.1,M.1].Perm [p.1,M.1,N.1] from .cons _<|.swap _ _ _)];exact Ec d<|UG G E f
 by_cases rn:N.1∈c.map (·.1)
 ·obtain⟨q,A,e⟩:=bg.1 rn;have C:=qY h rn O;rw[<-e,cM h.nd A] at C;obtain⟨y,g,D,_⟩:=rg q A;have:=F.sv (H g) E<|D.trans e;subst this;obtain⟨z,J,ez,i,hi,up⟩:=I q A y g D C;have:=F.sv J G ez;subst this;exact out<|three (v<|H R) (v E) (v G) B un L S hi up
 by_cases rm:M.1∈c.map (·.1)
 ·obtain⟨q,A,e⟩:=bg.1 rm;have C:=uG h hw rm O;rw[<-e,cM h.nd A] at C;obtain⟨y,g,D,_⟩:=rg q A;have:=F.sv (H g) G<|D.trans e;subst this;obtain⟨z,J,ez,i,hi,up⟩:=I q A y g D C;have:=F.sv J E ez;subst this;exact out (three (v<|H R) (v G) (v E) L S B un hi up).symm
 have wl:∀{Y:e6×Ob},Y∈allR rs->Y.1∉c.map (·.1)->∃i,i<4/\Y=(aA i,wall (cy rs) i):=fun {Y} W Z=>by
  rcases ky.1 W with z|z
  ·refine absurd (t.1.mem_iff.2 ?_) Z;rw[show (iU rs).map (·.1)=rs.map (·.1) by unfold iU;rw[gk];rfl];exact bg.2 ⟨Y,z,ρ⟩
  exact z
 obtain⟨a,ha,rfl⟩:=wl E rn;obtain⟨b,hb,rfl⟩:=wl G rm;have ix:=T.aK X.2 UE;have e1:=Gk ix B ha un;have e2:=Gk ix L hb S;subst e1 e2;unfold bw at O;rw[if_neg rn,if_neg rm,mO B L,mO L B,aan,decide_eq_true_eq,decide_eq_true_eq] at O;rcases O with e|e
 ·subst e;exact out<|ι<|Dc ix B un S
 subst e;exact out<|τ<|Dc ix L S un
theorem MA{rs:Fl}(d:Drawn rs){e:ay}(t:qq (iU rs) e)(h:ba e)(hw:cv e):dI e=[]:=by
 unfold dI;rw[we (sZ h)];have m:∀{n},n∈namesW e->n∈e.map (·.1)\/n∈bu:=fun {n} o=>ee.1<|(gn _ _).mem_iff.1 o;refine DK (sZ h) fun a p b q c r k l=>?_;rw[<-abW];intro z;unfold jQ at z;simp only[gj,sj,decide_eq_false_iff_not] at z;obtain⟨⟨⟨f,g⟩,i⟩,nt⟩:=z;refine nt ?_;by_cases ra:a∈e.map (·.1)
 ·rw[<-zy k l (.refl [a,b,c])];exact AU d.fl d.mt t h hw ra (qY h ra f) (qY h ra g) i
 by_cases rb:b∈e.map (·.1)
 ·rw[<-zy k l (.swap a b [c])];exact AU d.fl d.mt t h hw rb (uG h hw rb f) (qY h rb i) g
 by_cases j:c∈e.map (·.1)
 ·rw[<-zy k l (show [c,a,b].Perm [a,b,c] from (abl a c [b]).trans (.cons a<|.swap b c []))];exact AU d.fl d.mt t h hw j (uG h hw j g) (uG h hw j i) f
 exact (Bn h ((m p).resolve_left ra) ((m q).resolve_left rb) ((m r).resolve_left j) f g i).elim
def jg(a b:List e6):List Nat:=(hB a.length).filter fun j=>bd (a.getD j ""∈b)&&bd (dE a j∈b)
def rP(a b:List e6)(q:e6):List Str:=a.take ((jg a b).headD 0)++q::a.drop ((jg a b).headD 0)
def mP(a:List e6)(q:e6)(p:e6×List e6):e6×List Str:=(p.1,if p.1∈a then rP p.2 (a.filter fun o=>!bd (o=p.1)) q else p.2)
def cV(web:ay)(a:List e6)(q:e6):ay:=web.map (mP a q)++[(q,a)]
theorem zm{a:List e6}(nd:a.Nodup)(hl:3<=a.length){n m:e6}(s:aE a n m)(z:aE a m n):False:=by
 obtain⟨i,d,e⟩:=s;obtain⟨j,f,g⟩:=z;have hi:=(cm.1 d).1;have h:=jf nd e f;have b:=jf nd g d;subst h;rw[Nat.mod_add_mod] at b;by_cases c:i+1+1<a.length
 ·rw[hS c] at b;lia
 rw[Nat.mod_eq_sub_mod (by lia),hS (by omega)] at b;omega
theorem EV{a:List e6}(nd:a.Nodup)(hl:3<=a.length){n:e6}(s:aE a n n):False:=zm nd hl s s
theorem DJ{a e:List e6}{n m q:e6}(nd:a.Nodup)(hl:3<=a.length)(s:aE a n m)(h:∀y,y∈e ↔ y=n\/y=m):qX a n m q (rP a e q)/\∃j l,j<a.length/\jg a e=j::l:=by
 obtain⟨k,x,z,A⟩:=ou.1 s;have B:k∈jg a e:=by unfold jg;rw[f',tm,gj,decide_eq_true_eq,decide_eq_true_eq];exact⟨x,(h _).2 (τ A.symm),(h _).2 (ι z.symm)⟩
 obtain⟨j,l,o⟩:=aaF<|abq B;have p:j∈jg a e:=by rw[o];exact fk
 unfold jg at p;rw[f',tm,gj,decide_eq_true_eq,decide_eq_true_eq,h,h] at p;obtain⟨lt,b,c⟩:=p;refine⟨?_,j,l,lt,o⟩;have d:aE a (dE a j) (a.getD j ""):=ou.2 ⟨j,lt,ρ,ρ⟩;have both:dE a j=n/\a.getD j ""=m:=by
  rcases b with b|b<;>rcases c with c|c
  ·rw[b,c] at d;exact (EV nd hl d).elim
  ·rw[b,c] at d;exact (zm nd hl s d).elim
  ·exact⟨c,b⟩
  rw[b,c] at d;exact (EV nd hl d).elim
 have g:∀{i},i<a.length->a[i]?=al (a.getD i ""):=fun {i} C=>by rw[gm,cn C];rfl
 have r:=g lt;rw[both.2] at r;have f:=g (i:=(j+a.length-1)%a.length)<|Xx _ (by omega);rw[show a.getD ((j+a.length-1)%a.length) ""=n from both.1] at f;unfold rP;rw[o,ab7];cases j with
 | zero=>rw[I9,hS (by omega)] at f;have I:=GN (q:=q) nd hl f (m:=m) (by rw[abN (by omega),Dt];exact r);rw[abN (by omega),qt,Z9] at I;have t:gd (a++[q]) (q::a):=⟨a,[q],ρ,ρ⟩;exact⟨t.perm.trans I.perm,fun u v=>t.dC.trans<|I.succ u v⟩
 | succ j=>rw[show j+1+a.length-1=j+a.length by lia,Yc,hS (by lia)] at f;exact GN nd hl f (by rw[hS lt];exact r)
theorem HF(web:ay)(a:List e6)(q:e6):(cV web a q).map (·.1)=web.map (·.1)++[q]:=by unfold cV;rw[gf,gk];rfl
theorem HB{x a b:e6}(h:x≠a/\x≠b/\a≠b):(∀y,y∈[x,a,b].filter (fun o=>!bd (o=x)) ↔ y=a\/y=b)/\(∀y,y∈[x,a,b].filter (fun o=>!bd (o=a)) ↔ y=b\/y=x)/\(∀y,y∈[x,a,b].filter (fun o=>!bd (o=b)) ↔ y=x\/y=a):=by obtain⟨h1,h2,h3⟩:=h;refine⟨fun y=>?_,fun y=>?_,fun y=>?_⟩<;>simp only[f',eS,fv,or_false,sj,decide_eq_false_iff_not]<;>grind
theorem KD{web:ay}{x a b q:e6}(h:ba web)(hw:cv web)(hx:x∈web.map (·.1))(l:aE (cu web x) a b)(Y:q∉web.map (·.1))(G:dD q=bi)(h8:web.length<8):ba (cV web [x,a,b] q)/\cv (cV web [x,a,b] q)/\dI (cV web [x,a,b] q)≠[]:=by
 have t:=HF web [x,a,b] q;have M:(web.map (·.1)++[q]).Perm (q::web.map (·.1)):=XD;have E:((cV web [x,a,b] q).map (·.1)).Nodup:=by rw[t];exact M.nodup_iff.2<|lq.2 ⟨Y,h.nd⟩
 have at_:∀y∈web.map (·.1),cu (cV web [x,a,b] q) y=if y∈[x,a,b] then rP (cu web y) ([x,a,b].filter fun o=>!bd (o=y)) q else cu web y:=fun y c=>by obtain⟨p,m,rfl⟩:=bg.1 c;rw[cM h.nd m];exact cM E (p:=mP [x,a,b] q p)<|ee.2<|ι<|bg.2 ⟨p,m,ρ⟩
 have ap:=hw.C.apart hx l;obtain⟨o1,o2,o3⟩:=HB ap;have N:=fun y (c:y∈web.map (·.1)) {u v:e6}(s:aE (cu web y) u v) (ot:List e6) (ho:∀z,z∈ot ↔ z=u\/z=v)=>(DJ (q:=q) (hw.C.nd y c) (hw.C.len y c) s ho).1;have qw:q∉[aA 0,aA 1,aA 2,aA 3]:=fun z=>by have:=(pJ q).2 z;unfold dD at G;simp only[this] at G;simp at G
 have pt:iZ (web.map (·.1)) [aA 0,aA 1,aA 2,aA 3] (cu web) x a b q (cu<|cV web [x,a,b] q):={
  hx:=hx
  ab:=l
  qr:=Y
  qw:=qw
  rq:=cM E (p:=(q,[x,a,b]))<|ee.2<|τ fk
  rx:=by rw[at_ x hx,if_pos (by simp)];exact N x hx l _ o1
  ra:=fun O=>by rw[at_ a O,if_pos (by simp)];exact N a O (hw.C.gU x hx a b l O) _ o2
  rb:=fun Q=>by rw[at_ b Q,if_pos (by simp)];exact N b Q (hw.C.gP x hx a b l Q) _ o3
  ro:=fun y c g d f=>by rw[at_ y c,if_neg (by simp[g,d,f])]}
 have A:cv (cV web [x,a,b] q):=by unfold cv;rw[t];exact jK.turn (jK.put hw pt zt) M fun y _=>⟨[],_,ρ,(sb _).symm⟩
 have R:ba (cV web [x,a,b] q):=by
  refine xk A ?_ fun p m=>?_
  ·unfold cV;simp only[eW,bt,Hz];lia
  have:p.1∈web.map (·.1)++[q]:=by rw[<-t];exact bg.2 ⟨p,m,ρ⟩
  rcases ee.1 this with e|e
  ·obtain⟨z,S,e⟩:=bg.1 e;rw[<-e];exact h.nm z S
  rw[n6.1 e];exact G
 refine⟨R,A,?_⟩;obtain⟨Z,f2,f3,f4,f5,f6,f7,f8,f9,L⟩:=pt.facts hw.C;have inR:∀{y},y∈web.map (·.1)->y∈(cV web [x,a,b] q).map (·.1):=fun {y} c=>by rw[t];exact ee.2<|ι c
 have H:∀{u v},u∈web.map (·.1)->v∈cu web u->bw (cV web [x,a,b] q) u v=bi:=fun {u v} B I=>by unfold bw;rw[if_pos (inR B)];exact decide_eq_true<|(pt.mem hw.C<|eR _ B).2 (ι ⟨B,I⟩)
 have t1:=H hx l.mem.1;have t2:=H hx l.mem.2;have t3:bw (cV web [x,a,b] q) a b=bi:=by
  by_cases ra:a∈web.map (·.1)
  ·exact H ra (f9 ra).mem.1
  by_cases rb:b∈web.map (·.1)
  ·exact wc A<|H rb (L rb).mem.2
  have wl:∀{y},y∈[aA 0,aA 1,aA 2,aA 3]->∃k,k<4/\y=aA k:=fun {y} c=>by
   simp only[eS,fv,or_false] at c;rcases c with e|e|e|e
   ·exact⟨0,by decide,e⟩
   ·exact⟨1,by decide,e⟩
   ·exact⟨2,by decide,e⟩
   exact⟨3,by decide,e⟩
  have wa:=f4.resolve_left ra;have wb:=f5.resolve_left rb;obtain⟨j,hj,ea⟩:=wl wa;obtain⟨k,hk,eb⟩:=wl wb;have:=hw.ww x hx j k hj hk (by simp only[<-ea,<-eb];exact l);unfold bw;have no:∀{y},y∈[aA 0,aA 1,aA 2,aA 3]->y∉web.map (·.1)->y∉(cV web [x,a,b] q).map (·.1):=fun {y} c hn z=>by
   rw[t] at z;rcases ee.1 z with z|z
   ·exact hn z
   rw[n6.1 z] at c;exact qw c
  rw[if_neg (no wa ra),if_neg<|no wb rb,ea,eb,mO hj hk,decide_eq_true this.symm];rfl
 have T:∀u v,u∈[x,a,b]->v∈[x,a,b]->u≠v->bw (cV web [x,a,b] q) u v=bi:=fun u v B I n=>by
  simp only[eS,fv,or_false] at B I;rcases B with rfl|rfl|rfl<;>rcases I with rfl|rfl|rfl
  ·exact absurd ρ n
  ·exact t1
  ·exact t2
  ·exact wc A t1
  ·exact absurd ρ n
  ·exact t3
  ·exact wc A t2
  ·exact wc A t3
  exact absurd ρ n
 have sp:(bp [x,a,b]).Perm [x,a,b]:=gn _ _;have F:kG (bp [x,a,b]):=uE _;have i:(bp [x,a,b]).Nodup:=sp.nodup_iff.2 (by simp[Z,f2,f3]);obtain⟨g,d,f,ec⟩:∃g d f,bp [x,a,b]=[g,d,f]:=by
  have:=sp.length_eq
  match hl:bp [x,a,b],this with
  | [g,d,f],_=>exact⟨g,d,f,ρ⟩
 rw[ec] at sp F i;have gt:∀{u v:e6},¬v.cps.toList<u.cps.toList->u≠v->gtB u v=bi:=fun {u v} s n=>by unfold gtB;rw[decide_eq_true_eq];exact aaa fun z=>n<|Bf (jd.2 s)<|jd.2 z
 unfold kG at F;simp only[tj,eS,fv,or_false,List.Pairwise.nil,and_true] at F;simp only[lq,eS,fv,or_false,not_or,not_false_eq_true,Dl,and_true] at i;have g1:=gt (F.1 d<|ι ρ) i.1.1;have g2:=gt (F.2.1 f ρ) i.2;have U:=sp.mem_iff.1 (show g∈[g,d,f] by simp);have V:=sp.mem_iff.1 (show d∈[g,d,f] by simp);have W:=sp.mem_iff.1 (show f∈[g,d,f] by simp);have nw:∀{y},y∈[x,a,b]->y∈namesW (cV web [x,a,b] q):=fun {y} c=>by
  refine (gn _ _).mem_iff.2 (ee.2 ?_);simp only[eS,fv,or_false] at c;rcases c with rfl|rfl|rfl
  ·exact ι<|inR hx
  ·exact f4.imp inR id
  exact f5.imp inR id
 unfold dI;rw[we (sZ R)];refine abq<|Cc (sZ R) (nw U) (nw V) (nw W) g1 g2 ?_;unfold jQ;rw[T g d U V i.1.1,T g f U W i.1.2,T d f V W i.2];simp only[Zy,sj,decide_eq_false_iff_not];intro z;obtain⟨p,m,u,v,s,e⟩:=Sy z;have J:[p.1,u,v].Perm [x,a,b]:=by refine List.Perm.trans ?_ sp;rw[e];exact (gn _ _).symm
 have S:p.1∈q::web.map (·.1):=M.mem_iff.1 (by rw[<-t];exact bg.2 ⟨p,m,ρ⟩);rw[<-cM E m,pt.succ hw.C S] at s;have n1:=J.mem_iff.1 (show p.1∈[p.1,u,v] by simp);have n2:=J.mem_iff.1 (show u∈[p.1,u,v] by simp);have n3:=J.mem_iff.1 (show v∈[p.1,u,v] by simp);have pn:[p.1,u,v].Nodup:=J.nodup_iff.2 (by simp[Z,f2,f3]);have X:=fun {y u v}(c:y∈web.map (·.1)) (s:aE (cu web y) u v) (s':aE (cu web y) v u)=>zm (hw.C.nd y c) (hw.C.len y c) s s';generalize p.1=z at *;simp only[lq,eS,fv,or_false,not_or,not_false_eq_true,Dl,and_true] at pn n1 n2 n3;have UR:z≠q:=by rintro rfl;grind
 have US:u≠q:=by rintro rfl;grind
 have UT:v≠q:=by rintro rfl;grind
 have s0:z∈web.map (·.1)/\aE (cu web z) u v/\¬(z=x/\u=a/\v=b)/\¬(z=a/\u=b/\v=x)/\¬(z=b/\u=x/\v=a):=by
  rcases s with s|s|s|s|s|s|s|s|s|s
  ·exact s
  all_goals simp only[UR,US,UT,false_and,and_false] at s
 obtain⟨r,D,k1,k2,k3⟩:=s0;rcases n1 with rfl|rfl|rfl
 ·have:u=b/\v=a:=by grind
  rw[this.1,this.2] at D;exact X r l D
 ·have:u=x/\v=b:=by grind
  rw[this.1,this.2] at D;exact X r (f9 r) D
 have:u=a/\v=x:=by grind
 rw[this.1,this.2] at D;exact X r (L r) D
def eY(i:Nat):Stmt:=(fN kc).getD i (.Pass ⟨0,0,0,0⟩)
abbrev PX(P:kH)(w:pe)(K:ft)(mg:e6->Option cA)(base:ph)(f:dn)(cdv:cA)(A:qp)(outer:List ZO)(s:ey)(H:Hp)(E:XK):Cx:=(iE bj P w K mg base ["_law_purse_here","_law_web_here","_law_name","_law_rows","_law_at","_law_room","_law_row","_law_k","_law_three","_law_one","_law_ring","_law_others","_law_spots"] "_law_put_inside" (aP kc) f cdv A outer s H E).jA
theorem NU:fN kc=eY 0::([eY 1,eY 2]++([eY 3,eY 4]++(eY 5::[eY 6,eY 7]))):=ρ
section
variable{f:dn}{cdv:cA}{A:qp}{outer:List ZO}{s:ey}{H:Hp}{E:XK}
abbrev JU(K:ft):List V->Hp->VK->Prop:=fun xs H Q=>∃p ys,xs=[.ref p]/\(bA K H p ys\/aS K H p ys)/\∀l,H l=am->Q (.ref l) (upd H l<|.L ys)
abbrev Hr(K:ft):TE:=sx (eM [am,am,am]) (pW K<|ff 1) (yZ K 2<|rJ (gV 1)<|rJ (gV 2) Ba) A5<|CV<|j9 (ff 1)<|j9 (vg (JU K)<|j9 (ff 2) j6) j6
theorem Jg(T:Txt mg):PS (PX P w K mg base f cdv A outer s H E) (eY 0) (nF (Hr K)<|gV 3):=by
 have nd:=nK.nd;cases T;refine Ax (i:=3) (NB:=[".0","_law_room","_law_row"]) (caps:=[am,am,am]) nd ρ (by first|exact Ye ρ|exact X3 ρ) ρ (m9 (by rfl)) ρ (oH<|pv 1) (fun cl C s3 H fp=>⟨?_,C6,?_⟩) ρ (fun _=>rfl) (by first|exact Ye ρ|exact X3 ρ)
 ·exact zD ρ<|sN (mI (i:=1) (rC (by rfl)) ρ (by first|exact Ye ρ|exact X3 ρ))<|sN (mI (i:=2) (rC (by rfl)) ρ (by first|exact Ye ρ|exact X3 ρ)) xc
 exact xZ<|gw (pv 1)<|gw (uT BK ρ (by assumption) (by decide +kernel)<|gw (pv 2) il) il
structure vp (He H:Hp) (D:dn) (web:ay) (ts rs:List dn):Prop where
 lt:ts.length=web.length
 lr:rs.length=web.length
 at_:∀(j:Nat) t r p,ts[j]?=al t->rs[j]?=al r->web[j]?=al p->H t=al (.U [.str p.1,.ref r])/\H r=al (.L<|p.2.map V.str)
 nd:rs.Nodup
 nr:∀r∈rs,He r=am/\r≠D
 nt:∀t∈ts,He t=am/\t≠D
theorem some_at{a:Type}{l:List a}{j:Nat}(h:j<l.length):∃x,l[j]?=al x:=⟨_,cn h⟩
theorem vp.has{He H:Hp}{D:dn}{web:ay}{a rs:List dn}(h:vp He H D web a rs){r:dn}(c:r∈rs):∃xs,H r=al (.L xs):=by obtain⟨j,b⟩:=uz c;have lj:=(cm.1 b).1;have l1:=h.lt;have l2:=h.lr;obtain⟨t,d⟩:=some_at (l:=a) (j:=j) (by omega);obtain⟨p,e⟩:=some_at (l:=web) (j:=j) (by omega);exact⟨_,(h.at_ j t r p d b e).2⟩
theorem Iy{σ:St}{H:Hp}{web:ay}{pw:dn}{vs:List V}(R:σ[1]?=al (al<|.ref pw))(C:bA K H pw vs)(hl:vs.length=web.length)(bO:web.length<=8)
 (S:∀(j:Nat) p,web[j]?=al p->∃a r,vs[j]?=al (.ref a)/\aS K H a [.str p.1,.ref r]/\bA K H r (p.2.map V.str)){Q:VK}(T:∀D H' c rs,ag H H'->H D=am->H' D=al (.L<|c.map V.ref)->vp H H' D web c rs->Q (.ref D) H'):Hr K σ H Q:=by
 refine⟨_,R,pw,ρ,⟨_,C⟩,fun D I=>⟨fun i m σ' H'=>m=web.length-i/\i<=web.length/\σ'.length=3/\ag H H'/\∃c rs,H' D=al (.L<|c.map V.ref)/\vp H H' D (web.take i) c rs,⟨_,ρ,pd _,ρ,jU I,[],[],aT,⟨ρ,ρ,fun j t r p e=>(by simp at e),Dl,fun r h=>(nomatch h),fun r h=>(nomatch h)⟩⟩,?_⟩⟩;rintro i m σ' H' ⟨rfl,hi,U,sm,c,rs,hd,nw⟩;have q:=bA.mono sm C;have lt:=nw.lt;have lr:=nw.lr;simp only[hY] at lt lr;by_cases F:i<web.length
 ·obtain⟨p,ep⟩:=some_at F;obtain⟨a,W,N,J,X⟩:=S i p ep;refine τ ⟨⟨vs,_,q,N⟩,fun x G y=>?_⟩;obtain⟨e,y⟩:=y;subst e;have:=y vs q;rw[N] at this;obtain rfl:=sO this;refine⟨a,_,ρ,aS.mono sm J,ρ,_,_,ρ,_,_,ρ,ρ,?_⟩;unfold A5;dsimp only;rw[if_pos ρ];refine⟨_,by rw[gD (by decide)];exact ka (by omega),_,ka (by rw[nL];omega),W,_,ρ,ι<|bA.mono sm X,fun l v=>⟨by show 2<=dk;unfold dk;decide,fun t d=>?_⟩⟩;have O:t≠l:=fun z=>by rw[z,aT] at d;cases d
  rw[ax O] at d;have L:D≠l:=fun z=>by rw[z,v] at hd;exact nO hd
  have M:D≠t:=fun z=>by rw[z,d] at hd;exact nO hd
  have ok:∀b o,G b=al o->b≠D->upd (upd (upd G l<|.L<|p.2.map V.str) t<|.U [.str p.1,.ref l]) D (.L<|c.map V.ref++[.ref t]) b=al o:=fun b o e n=>by
   have Y:b≠t:=fun z=>by rw[z,d] at e;exact nO e
   have Z:b≠l:=fun z=>by rw[z,v] at e;exact nO e
   rw[ax n,ax Y,ax Z];exact e
  have nl:H l=am:=by
   cases e:H l with
   | none=>rfl
   | some o=>have:=sm l o e;rw[v] at this;exact nO this
  have nt:H t=am:=by
   cases e:H t with
   | none=>rfl
   | some o=>have:=sm t o e;rw[d] at this;exact nO this
  refine⟨_,by rw[ax M,ax L];exact hd,by rw[bt];unfold dk;lia,web.length-(i+1),by omega,rfl,F,by rw[nL,nL];exact U,fun b o e=>ok b o (sm b o e) fun z=>(by rw[z,I] at e;exact nO e),c++[t],rs++[l],by rw[aT,gf];rfl,?_⟩;rw[fS ep];refine⟨by simp only[eW,eW,nw.lt];rfl,by simp only[eW,eW,nw.lr];rfl,fun j u r p' g k B=>?_,?_,fun r h=>?_,fun r h=>?_⟩
  ·by_cases hj:j<i
   ·rw[hG (by lia)] at g k;rw[hG (by rw[hY];lia)] at B;obtain⟨h1,h2⟩:=nw.at_ j u r p' g k B;exact⟨ok _ _ h1 (nw.nt u<|eH g).2,ok _ _ h2 (nw.nr r<|eH k).2⟩
   have ji:j=i:=by have:=(cm.1 g).1;simp only[eW,Hz] at this;lia
   subst ji;rw[hE (by lia),show j-c.length=0 by lia] at g;rw[hE (by lia),show j-rs.length=0 by lia] at k;rw[hE (by rw[hY];lia),hY,show j-min j web.length=0 by lia] at B;obtain rfl:=sO g;obtain rfl:=sO k;obtain rfl:=sO B;exact⟨by rw[ax M.symm,aT],by rw[ax L.symm,ax O.symm,aT]⟩
  ·refine lp.2 ⟨nw.nd,by simp,fun a J b hb e=>?_⟩;rw[n6.1 hb] at e;subst e;obtain⟨xs,hx⟩:=nw.has J;rw[v] at hx;exact nO hx
  ·rcases ee.1 h with h|h
   ·exact nw.nr r h
   rw[n6.1 h];exact⟨nl,L.symm⟩
  rcases ee.1 h with h|h
  ·exact nw.nt r h
  rw[n6.1 h];exact⟨nt,M.symm⟩
 have ei:i=web.length:=by lia
 subst ei;rw[qt] at nw;exact ι ⟨⟨vs,q,by lia⟩,T D H' c rs sm I hd nw⟩
end
theorem Ql{i:Nat}{Z Z1:DS}{xs:List Dat}{n:Int}{d:Dat}{fa:AF}(h:(Z[i]?).bind ownOf=al (true,.L xs))(a:fa Z=al ([.int n,d],Z1))(b:(Z1[i]?).bind ownOf=al (true,.L xs))(c:0<=n/\n<=xs.length/\xs.length<dk):iS i tL fa Z=al (.aU,Z1.set i<|.io<|.L (xs.take n.toNat++d::xs.drop n.toNat)):=by unfold iS;simp only[h];simp only[ma];rw[a];dsimp only[ma];rw[b];simp only[ma];unfold tL;simp only[c,if_true,and_self];rfl
theorem P4{a:Type}{enc:a->Dat}{caps:List (Option Nat)}{kb j:Nat}{fi:IF}{g:GF}{fc:BF}{fe:DF}{xs:List a}{Z Z1 Z2 Z3:DS}{c0:Dat}(put:a->DS)(keep:a->Bool)(val:a->Dat)(l:fi Z=al (xs.map enc,Z1))(m:aV (al (kb,j)) caps Z1=Z2)(n:caps[kb]?=al (al j))(o:Z2[j]?=al (.io c0))(p:xs.length<=dk)
 (q:∀x∈xs,∀Z,(Z=(b8 caps Z2).set kb (.io c0)\/∃y,Z=put y)->g (enc x) Z=al (put x))(s:∀x∈xs,fc (put x)=al (keep x,put x))(t:∀x∈xs,keep x=bi->fe (put x)=al (val x,put x))(i:∀x∈xs,noOwn (put x)=bi)
 (u:∀y,(put y)[kb]?=al (.io c0))(v:((b8 caps Z2).set kb (.io c0))[kb]?=al (.io c0))(z:Z2.set j (.io c0)=Z3):dJ caps (al (kb,j)) fi g fc fe Z=al (.O<|.L<|(xs.filter keep).map val,Z3):=by
 have:WE (dJ caps (al (kb,j)) fi g fc fe) Z fun r Z'=>r=.O (.L<|(xs.filter keep).map val)/\Z'=Z3:=by
  refine F8 (fun k b Z=>b=((xs.take k).filter keep).map val/\(Z=(b8 caps Z2).set kb (.io c0)\/∃y,Z=put y)) l m n o ⟨ρ,ι ρ⟩ (by rw[bt];exact p) (fun k x hx b Z f=>?_)<|fun b Z f=>?_
  ·obtain⟨rfl,hd⟩:=f;rw[c6] at hx;obtain⟨y,h,rfl⟩:=gW.1 hx;have c:=eH h;refine⟨put y,q y c Z hd,keep y,put y,s y c,fun d=>⟨i y c,?_,τ ⟨y,ρ⟩⟩,fun d=>⟨_,_,t y c d,i y c,?_,τ ⟨y,ρ⟩⟩⟩
   ·rw[fS h,YD];simp[u4,d]
   rw[fS h,YD];simp[u4,d]
  obtain⟨rfl,hd⟩:=f;rw[bt,qt];refine⟨c0,?_,ρ,z⟩;rcases hd with rfl|⟨y,rfl⟩
  ·exact v
  exact u y
 obtain⟨r,Z',e,rfl,rfl⟩:=this;exact e
section
variable{f:dn}{cdv:cA}{A:qp}{outer:List ZO}{s:ey}{H:Hp}{E:XK}
noncomputable def dr(fnD:cz)(p:Int×Int)(m:Nat):Nat×(Int×Int):=Classical.epsilon fun z=>fnD (pD p) [.int (m:Int)]=al (.D<|.int (z.1:Int),pD z.2)/\z.1<m
theorem ni{fnD:cz}(c:jW fnD)(p:Int×Int){m:Nat}(h:0<m)(h':m<=1000):fnD (pD p) [.int (m:Int)]=al (.D<|.int ((dr fnD p m).1:Int),pD (dr fnD p m).2)/\(dr fnD p m).1<m:=by refine Classical.epsilon_spec (p:=fun z:Nat×(Int×Int)=>fnD (pD p) [.int (m:Int)]=al (.D<|.int (z.1:Int),pD z.2)/\z.1<m) ?_;obtain⟨v,q,e,a,b⟩:=c p (m:=(m:Int)) (by omega) (by omega);obtain⟨n,rfl⟩:=Xo a;exact⟨(n,q),e,by omega⟩
theorem TK(T:Txt mg){fnD:cz}(b:aY P w K mg base "_law_draw" 1 (dy K 0 fnD))(c:jW fnD)(d:bY 1 (A.deeper<|Xc "_law_put_inside" (aP kc) s.heap.objs.size f cdv)) :
  ∃a,nI (PX P w K mg base f cdv A outer s H E) [eY 1,eY 2] a/\∀(p:Int×Int) (W:Dat) (q x:e6) (r:dn) (R:List Dat),0<R.length->R.length<=10->R[(dr fnD p R.length).1]?=al (.U [.str x,.adr r]) ->
   a [.io (pD p),.D W,.D<|.str q,.O<|.L R,.no,.no,.no,.no,.no,.no,.no,.no,.no]=al (.next [.io (pD (dr fnD p R.length).2),.D W,.D<|.str q,.O<|.L R,.D<|.int ((dr fnD p R.length).1:Int),.D<|.str x,.D<|.adr r,.no,.no,.no,.no,.no,.no]):=by
 have nd:=nK.nd;cases T;refine'⟨_,?B,?C⟩
 case B=>walk_at "dskc"
 case C =>
  clear b d;intro p W q x r R e h1 g;obtain⟨h,lt⟩:=ni c p e (by omega);refine vH ?_;refine aj<|aH (dM ρ (af (fH ρ ρ) ao) ρ h ρ) ρ<|aq ?_;have i:cp (.L R) (.int ((dr fnD p R.length).1:Int))=al (.U [.str x,.adr r]):=by rw[iV];exact iY g
  exact aj<|Dd (bc ρ ρ ρ i) ρ<|aq<|aZ ρ
theorem NY(T:Txt mg){fnD:cz}(e:aY P w K mg base "_law_draw" 1 (dy K 0 fnD))(g:jW fnD)(h:bY 1 (A.deeper<|Xc "_law_put_inside" (aP kc) s.heap.objs.size f cdv)) :
  ∃d,nI (PX P w K mg base f cdv A outer s H E) [eY 3,eY 4] d/\∀(p:Int×Int) (W:Dat) (q x:e6) (a:List e6) (b c:Slot),0<a.length->a.length<=100 ->
   d [.io (pD p),.D W,.D<|.str q,b,c,.D<|.str x,.D<|.L<|a.map .str,.no,.no,.no,.no,.no,.no]=al (.next [.io (pD (dr fnD p a.length).2),.D W,.D<|.str q,b,c,.D<|.str x,.D<|.L<|a.map .str,.D<|.int ((dr fnD p a.length).1:Int),.O<|.L<|[x,dE a (dr fnD p a.length).1,a.getD (dr fnD p a.length).1 ""].map .str,.no,.no,.no,.no]):=by
 have nd:=nK.nd;cases T;refine'⟨_,?B,?C⟩
 case B=>walk_at "dskc"
 case C =>
  clear e h;intro p W q x a b c i h1;obtain⟨j,lt⟩:=ni g p i (by omega);generalize dr fnD p a.length=z at *;have k:dg (.L<|a.map .str)=al a.length:=by simp[dg]
  have l:=zX lt;have m:di (a.map Dat.str) (z.1:Int)=al (.str<|a.getD z.1 ""):=iY (by rw[c6,cn lt,gm,cn lt];rfl);refine vH ?_;refine aj<|aH (dM ρ (af (fH ρ k) ao) ρ j ρ) ρ<|aq ?_;have n:cp (.L<|a.map .str) (.int<|(z.1:Int)-1)=al (.str<|dE a z.1):=by rw[iV];exact l
  have o:cp (.L<|a.map .str) (.int (z.1:Int))=al (.str<|a.getD z.1 ""):=by rw[iV];exact m
  exact aj<|aH (cG (af ρ<|af (bc ρ (ai (au ρ ρ ρ) ρ) ρ n)<|af (bc ρ ρ ρ o) ao) (by show 3<=dk;unfold dk;decide)) ρ<|aq<|aZ ρ
noncomputable def SO(i:Nat):Stmt:=(sh<|eY 5).getD i (.Pass ⟨0,0,0,0⟩)
theorem RG:sh (eY 5)=[SO 0]:=ρ
theorem Sa(T:Txt mg)(Q:bY 1 (A.deeper<|Xc "_law_put_inside" (aP kc) s.heap.objs.size f cdv)) :
  ∃C,gh (PX P w K mg base f cdv A outer s H E) (sh<|eY 5) C/\∀(t D:dn) (q one:e6) (m p:List e6),bf q->bf one->(∀n∈m,bf n)->(∀n∈p,bf n)->m.length<=100->p.length=3->(one∈p->∃j l,j<m.length/\jg m (p.filter fun o=>!bd (o=one))=j::l) ->
   WS C [.D (.adr t),.no,.D<|.str q,.D<|.adr D,.no,.no,.no,.no,.D<|.L<|p.map .str,.D<|.str one,.io<|.L<|m.map .str,.no,.no] fun o=>∃F G,o=.next [.D (.adr t),.no,.D<|.str q,.D<|.adr D,.no,.no,.no,.no,.D<|.L<|p.map .str,.D<|.str one,.io<|.L<|(mP p q (one,m)).2.map .str,F,G]:=by
 have nd:=nK.nd;cases T;rw[RG];refine'⟨_,?R,?S⟩
 case R =>
  refine' mv ?U ?V
  case V=>exact pM
  case U =>
   refine' zY ?W ?X ?Y
   case W=>walk_at "T"
   case Y=>exact pM
   case X =>
    refine' mv ?u6 ?u7
    case u6=>walk_at "Z"
    case u7 =>
     refine' mv ?u8 ?u9
     case u8 =>
      refine' QA (NB:=[".0","_law_j","_law_others","_law_ring"]) (caps:=[am,am,al 11,al 10]) 3 10 12 nd ρ ?w1 ?w2 ρ ?w3 ρ ?w4 ?w5 ?w6 ?w7 ρ<|fun _=>rfl
      case w1=>walk_at "L"
      case w2=>walk_at "F"
      case w3=>exact m9 (by rfl)
      case w4=>(refine' Cm ?y1 ?y2 ?y3 ?y4;(case y1=>rfl);(case y2=>assumption);(case y3=>rfl);(case y4=>walk_at "A"))
      case w5=>intro _ _ _ _ _;walk_at "G"
      case w6=>intro _ _ _ _ _;walk_at "J"
      case w7=>intro _ _ _ _ _;walk_at "D"
     case u9 =>
      refine' mv ?v1 ?v2
      case v2=>exact pM
      case v1 =>
       refine' B5 ?a ?b ?c ?d ?e ?f ?g ?h ?i ?j ?k
       case a=>rfl
       case b=>walk_at "V"
       case c=>decide
       case d=>decide
       case e=>rfl
       case f=>rfl
       case g=>rfl
       case h=>rfl
       case i=>rfl
       case j=>rfl
       case k=>walk_at "A"
 case S =>
  clear Q;intro t D q one m p tq I tn x h100 h3 sp;have u:=jC x I false;simp only[yv,if_false] at u;have ln:dg (.L<|m.map .str)=al m.length:=by simp[dg]
  by_cases c:one∈p
  rotate_left
  ·rw[decide_eq_false c] at u;rw[show (mP p q (one,m)).2=m from if_neg c];exact aj (fJ (bM<|au ρ ρ u) (fun z=>by cases z) fun _=>aZ<|aq<|aZ ⟨_,_,ρ⟩)
  rw[decide_eq_true c] at u;obtain⟨j,l,hj,J⟩:=sp c;have eE:(mP p q (one,m)).2=m.take j++q::m.drop j:=by unfold mP rP;rw[if_pos c];dsimp only;rw[J,ab7]
  rw[eE,gf,iW,Yl,Ym];refine aj (fJ (bM<|au ρ ρ u) (fun _=>?_) fun z=>by cases z);refine aj<|aH (k9 (enc:=Dat.str) (xs:=p) (fun n=>[.no,.D<|.str n,.D<|.str one]) (fun n=>!bd (n=one)) (fun n=>.str n) (da ρ) ρ (by unfold dk;omega) ?_ (fun n v=>bM<|au ρ ρ<|GK (x n v) I) (fun _ _ _=>rfl)<|fun _ _=>rfl) ρ<|aq ?_
  ·rintro y _ Z (rfl|⟨z,rfl⟩)<;>rfl
  generalize L:(p.filter fun n=>!bd (n=one))=r at *;have to:∀n∈r,bf n:=fun n v=>x n (by rw[<-L] at v;exact (f'.1 v).1);have g:∀k,k<m.length->bf (m.getD k "")/\bf (dE m k):=fun k B=>by
   have key:∀i,i<m.length->bf (m.getD i ""):=fun i M=>by rw[gm,cn M];exact tn _<|W1 M
   exact⟨key k B,key _<|Xx _ (by omega)⟩
  refine' aj<|aH (Z2:=[.D (.adr t),.no,.D<|.str q,.D<|.adr D,.no,.no,.no,.no,.D<|.L<|p.map .str,.D<|.str one,.io<|.L<|m.map .str,.D<|.L<|r.map .str,.O<|.L ((jg m r).map fun k:Nat=>Dat.int (k:Int))]) (P4 (enc:=fun k:Nat=>Dat.int (k:Int)) (xs:=hB m.length) (Z1:=[.D (.adr t),.no,.D<|.str q,.D<|.adr D,.no,.no,.no,.no,.D<|.L<|p.map .str,.D<|.str one,.io<|.L<|m.map .str,.O<|.L<|r.map .str,.no]) (Z2:=[.D (.adr t),.no,.D<|.str q,.D<|.adr D,.no,.no,.no,.no,.D<|.L<|p.map .str,.D<|.str one,.io<|.L<|m.map .str,.D<|.L<|r.map .str,.no]) (Z3:=[.D (.adr t),.no,.D<|.str q,.D<|.adr D,.no,.no,.no,.no,.D<|.L<|p.map .str,.D<|.str one,.io<|.L<|m.map .str,.D<|.L<|r.map .str,.no]) (c0:=.L<|m.map .str) (fun k=>[.no,.D<|.int (k:Int),.D<|.L<|r.map .str,.io<|.L<|m.map .str]) (fun k=>bd (m.getD k ""∈r)&&bd (dE m k∈r)) (fun k=>.int (k:Int)) (Gu (af (fH ρ ln) ao) (by omega)) ρ ρ ρ (by rw[lT];unfold dk;omega) ?x1 (fun k B=>?x2) (fun _ _ _=>rfl) (fun _ _=>rfl) (fun _=>rfl) ρ ρ) ρ<|aq ?x3
  case x1=>rintro y _ Z (rfl|⟨z,rfl⟩)<;>rfl
  case x2 =>
   have lt:=tm.1 B;have N:=jC to (g k lt).1 false;have O:=jC to (g k lt).2 false;simp only[yv,if_false] at N O;have a1:=zX lt;have a2:di (m.map Dat.str) (k:Int)=al (.str<|m.getD k ""):=iY (by rw[c6,cn lt,gm,cn lt];rfl);have b1:cp (.L<|m.map .str) (.int<|(k:Int)-1)=al (.str<|dE m k):=by rw[iV];exact a1
   have b2:cp (.L<|m.map .str) (.int (k:Int))=al (.str<|m.getD k ""):=by rw[iV];exact a2
   exact mK (bM<|au (bc ρ ρ ρ b2) ρ N)<|bM<|au (bc ρ (ai (au ρ ρ ρ) ρ) ρ b1) ρ O
  case x3 =>
   rw[J];have b0:cp (.L ((j::l).map fun k:Nat=>Dat.int (k:Int))) (.int 0)=al (.int (j:Int)):=by rw[iV];show di _ ((0:Nat):Int)=_;exact iY ρ
   exact aj ⟨_,oQ<|Ql (n:=(j:Int)) (d:=.str q) ρ (af (bc ρ ρ ρ b0)<|af ρ ao) ρ ⟨by omega,by rw[bt];omega,by rw[bt];unfold dk;omega⟩,aq<|aZ<|aq<|aZ ⟨_,_,ρ⟩⟩
theorem Sl(T:Txt mg)(m:bY 1 (A.deeper<|Xc "_law_put_inside" (aP kc) s.heap.objs.size f cdv)) :
  ∃l,gh (PX P w K mg base f cdv A outer s H E) [eY 6,eY 7] l/\∀(c:Dat) (q:e6) (R:List Dat) (k:List e6),R.length<=10 ->
   WS l [.io c,.no,.D<|.str q,.O<|.L R,.no,.no,.no,.no,.D<|.L<|k.map .str,.no,.no,.no,.no] fun o=>∃Z,o=.ret (.O<|.L<|R++[pairD (q,k)]) Z/\Z[0]?=al (.io c):=by
 have nd:=nK.nd;cases T;refine'⟨_,?B,?C⟩
 case B =>
  refine' mv ?D ?F
  case D =>
   refine' GL ?a ?b ?c ?d ?e ?f ?g ?h ?i ?j
   case a=>rfl
   case b=>walk_at "V"
   case c=>decide
   case d=>decide
   case e=>rfl
   case f=>rfl
   case g=>rfl
   case h=>rfl
   case i=>rfl
   case j=>walk_at "A"
  case F =>
   refine' mv ?G ?I
   case I=>exact pM
   case G=>refine' D4 ?J;(case J=>refine' BB ?a ?b ?c ?d;(case a=>rfl);(case b=>walk_at "V");(case c=>decide);(case d=>decide))
 case C=>clear m;intro c q R k h;exact aj ⟨_,oQ<|Og ρ (af (gv (af ρ<|af ρ ao) (by show 2<=dk;unfold dk;decide)) ao) ρ (by unfold dk;omega),aq<|aj<|cc ρ ⟨_,ρ,ρ⟩⟩
end
noncomputable def ic(fnD:cz)(p:Int×Int)(web:ay):List e6×(Int×Int) :=
 ([(web.getD (dr fnD p web.length).1 ("",[])).1,dE (web.getD (dr fnD p web.length).1 ("",[])).2 (dr fnD (dr fnD p web.length).2 (web.getD (dr fnD p web.length).1 ("",[])).2.length).1,(web.getD (dr fnD p web.length).1 ("",[])).2.getD (dr fnD (dr fnD p web.length).2 (web.getD (dr fnD p web.length).1 ("",[])).2.length).1 ""],(dr fnD (dr fnD p web.length).2 (web.getD (dr fnD p web.length).1 ("",[])).2.length).2)
def xh(c:Dat)(ds:List Dat)(t:(Int×Int)×ay×e6):Prop:=c=pD t.1/\ds=[.L (t.2.1.map pairD),.str t.2.2]/\ba t.2.1/\cv t.2.1/\bf t.2.2
noncomputable def Dv(fnD:cz)(t:(Int×Int)×ay×e6):Res×Dat:=(.O<|.L<|(cV t.2.1 (ic fnD t.1 t.2.1).1 t.2.2).map pairD,pD (ic fnD t.1 t.2.1).2)
noncomputable def qf(fnD:cz):cz:=fun c ds=>haveI:=fun p=>XU p;if h:∃t,xh c ds t then al (Dv fnD h.choose) else am
theorem F2{fnD:cz}{c:Dat}{ds:List Dat}{r:Res×Dat}(e:qf fnD c ds=al r):∃t,xh c ds t/\r=Dv fnD t:=by
 unfold qf at e;split at e
 ·rename_i h;cases e;exact⟨_,h.choose_spec,ρ⟩
 cases e
theorem tU{H:Hp}:∀{ds:List Dat}{vs:List V},ds.length=vs.length->(∀(j:Nat) d v,ds[j]?=al d->vs[j]?=al v->Rep K H d v)->aw K H ds vs
 | [],[],_,_=>rfl
 | [],_::_,h,_=>by simp at h
 | _::_,[],h,_=>by simp at h
 | d::ds,v::vs,h,k=>⟨v,vs,ρ,k 0 d v ρ ρ,tU (by simpa using h) fun j d v a b=>k (j+1) d v (by simpa using a) (by simpa using b)⟩
theorem My{g:Hp×Hp}{l:Nat->Option dn}{Z:DS}{σ:St}{H Hi:Hp}{i:Nat}{d d':Dat}(S:SR K g l Z σ H Hi)(e:Z[i]?=al (.D d))(h:∀v,Rep K Hi d v->Rep K Hi d' v):SR K g l (Z.set i<|.D d') σ H Hi:=by
 have m:=(cm.1 e).1;have back:∀{j:Nat}{s:Slot},(Z.set i<|.D d')[j]?=al s->(∀d,s≠.D d)->Z[j]?=al s:=fun {j s} z n=>by
  by_cases f:i=j
  ·subst f;rw[ka m] at z;cases z;exact absurd ρ<|n d'
  rw[gD f] at z;exact z
 refine⟨S.sub,S.keep,S.dB,fun j o z=>?_,fun j c z=>S.O j c (back z fun _=>by simp),fun j c z=>S.io j c (back z fun _=>by simp),fun j k c c' p a b=>S.ne j k c c' p (a.imp (fun z=>back z fun _=>by simp) fun z=>back z fun _=>by simp) (b.imp (fun z=>back z fun _=>by simp) fun z=>back z fun _=>by simp),by rw[nL];exact S.len,S.nw⟩;by_cases f:i=j
 ·subst f;rw[ka m] at z;cases z;obtain⟨v,a,b⟩:=S.D i d e;exact⟨v,a,h v b⟩
 rw[gD f] at z;exact S.D j o z
noncomputable def Qb:Slot->Bool
 | .D _=>false
 | _=>true
noncomputable def Eh:Slot->Bool
 | .O _=>false
 | _=>true
noncomputable def Oc:Slot->Bool
 | .io _=>false
 | _=>true
theorem Hf{a:Nat->Dat->Prop}:∀(i:Nat) d,([]:DS)[i]?=al (.D d)->a i d:=fun i d e=>by cases e
theorem eJ{a:Nat->Dat->Prop}{x:Slot}{l:DS}(h:Qb x=bi)(t:∀(i:Nat) d,l[i]?=al (.D d)->a (i+1) d):∀(i:Nat) d,(x::l)[i]?=al (.D d)->a i d
 | 0,d,e=>by have e:x=.D d:=Option.some.inj e;rw[e] at h;cases h
 | i+1,d,e=>t i d e
theorem nM{a:Nat->Dat->Prop}{y:Dat}{l:DS}(h:a 0 y)(t:∀(i:Nat) d,l[i]?=al (.D d)->a (i+1) d):∀(i:Nat) d,(.D y::l:DS)[i]?=al (.D d)->a i d
 | 0,d,e=>by
  cases e;exact h
 | i+1,d,e=>t i d e
theorem El{A B:DS}{x y:Slot}{i:Nat}(h:(A++y::B)[i]?=al x):(i=A.length/\x=y)\/x∈A++B:=by
 rw[List.getElem?_append] at h;split at h
 ·exact τ<|Zl _<|eH h
 rename_i hi;by_cases c:i-A.length=0
 ·rw[c] at h;exact ι ⟨by omega,(Option.some.inj h).symm⟩
 obtain⟨n,a⟩:∃n,i-A.length=n+1:=⟨i-A.length-1,by omega⟩;rw[a] at h;exact τ<|p8 _<|eH h
theorem xw{A B:DS}{c d:Dat}{i:Nat}(b:(A++B).all Eh=bi)(h:(A++.O d::B)[i]?=al (.O c)):i=A.length/\c=d:=by
 rcases El h with⟨a,e⟩|z
 ·cases e;exact⟨a,ρ⟩
 cases mA.1 b _ z
theorem vP{A B:DS}{c d:Dat}{i:Nat}(b:(A++B).all Oc=bi)(h:(A++.io d::B)[i]?=al (.io c)):i=A.length/\c=d:=by
 rcases El h with⟨a,e⟩|z
 ·cases e;exact⟨a,ρ⟩
 cases mA.1 b _ z
theorem Ur{Z:DS}{σ:St}{H Hi:Hp}{k:Nat}{r:dn}{c:Dat}(s:ag Hi H)(hl:Z.length=σ.length)(hd:∀(i:Nat) d,Z[i]?=al (.D d)->∃v,σ[i]?=al (al v)/\Rep K Hi d v)(no:∀(i:Nat) c',Z[i]?≠al (.O c'))(io:∀(i:Nat) c',Z[i]?=al (.io c')->i=k/\c'=c)(m:σ[k]?=al (al<|.ref r))(f:cx K H Hi r c):SR K (H,Hi) (fun i=>if i=k then al r else am) Z σ H Hi where
 sub:=s
 keep:=fun b o e _=>e
 dB:=fun p ⟨j,z⟩=>by
  dsimp only at z;by_cases g:j=k
  ·rw[if_pos g] at z;cases z;obtain⟨⟨o,e⟩,_⟩:=f.some;rw[e];simp
  rw[if_neg g] at z;cases z
 D:=hd
 O:=fun i c' e=>absurd e<|no i c'
 io:=fun i c' e=>by obtain⟨rfl,rfl⟩:=io i c' e;exact⟨r,m,f,if_pos ρ⟩
 ne:=fun i j h l p a b _ _=>by
  rcases a with a|a
  ·exact absurd a<|no i h
  rcases b with b|b
  ·exact absurd b<|no j l
  rw[(io i h a).1,(io j l b).1]
 len:=hl
 nw:=fun p o e=>ι e
noncomputable def gH(web:ay)(rs:List dn):List Dat:=(web.zip rs).map fun z=>.U [.str z.1.1,.adr z.2]
theorem Ge{web:ay}{rs:List dn}(h:rs.length=web.length):(gH web rs).length=web.length:=by unfold gH;rw[bt,List.length_zip,h,Nat.min_self]
theorem Bb{web:ay}{rs:List dn}{j:Nat}{p:e6×List e6}{r:dn}(a:web[j]?=al p)(b:rs[j]?=al r):(gH web rs)[j]?=al (.U [.str p.1,.adr r]):=by have:(web.zip rs)[j]?=al (p,r):=W6.2 ⟨a,b⟩;unfold gH;rw[c6,this];rfl
theorem Eb{web:ay}{rs:List dn}{j:Nat}{d:Dat}(e:(gH web rs)[j]?=al d):∃p r,web[j]?=al p/\rs[j]?=al r/\d=.U [.str p.1,.adr r]:=by unfold gH at e;rw[c6] at e;obtain⟨z,c,rfl⟩:=gW.1 e;obtain⟨a,b⟩:=W6.1 c;exact⟨_,_,a,b,ρ⟩
theorem wK{Hi:Hp}{n:e6}{r:dn}{v:V}:Rep K Hi (.U [.str n,.adr r]) v ↔ ∃t,v=.ref t/\aS K Hi t [.str n,.ref r]:=by
 constructor
 ·rintro⟨t,us,rfl,a,b,_,rfl,c,d,_,rfl,e,rfl⟩;cases (show b=.str n from c);cases (show d=.ref r from e);exact⟨t,ρ,a⟩
 rintro⟨t,rfl,a⟩;exact⟨t,_,ρ,a,_,_,ρ,ρ,_,_,ρ,ρ,ρ⟩
theorem BC{Hi H':Hp}{t:dn}{us:List V}(a:aS K Hi t us)(h:∀o,Hi t=al o->(∀xs,o≠.L xs)->(∀q xs,o≠.aV q (.L xs))->H' t=al o):aS K H' t us:=by
 rcases a with b|k
 ·rcases b with e|⟨o,e⟩
  ·exact ι<|ι (h _ e (fun _ z=>by cases z) fun _ _ z=>by cases z)
  exact ι<|τ ⟨o,h _ e (fun _ z=>by cases z) fun _ _ z=>by cases z⟩
 exact τ k
theorem QZ{σ:St}{a b p:dn}(n:a≠b)(e:σ[0]?=al (al<|.ref a))(f:σ[3]?=al (al<|.ref b)){i j:Nat}(g:i=3\/i=0)(h:j=3\/j=0)(c:σ[i]?=al (al<|.ref p))(d:σ[j]?=al (al<|.ref p)):i=j:=by
 rcases g with rfl|rfl<;>rcases h with rfl|rfl
 ·rfl
 ·rw[f] at c;rw[e] at d;cases c;cases d;exact absurd ρ n
 ·rw[e] at c;rw[f] at d;cases c;cases d;exact absurd ρ n
 rfl
theorem Iu(T:Txt mg){fnD:cz}(q1:aY P w K mg base "_law_draw" 1 (dy K 0 fnD))(sD:jW fnD){f:dn}{fd:kq}(F:bz K "_law_put_inside" "_law_put_inside" kc f fd):br P w K mg base bj 2 f fd ["_law_purse_here","_law_web_here","_law_name"] (dy K 0<|qf fnD):=by
 refine F.ok nK (fun vs H Q E h=>?_)<|fun cdv A outer s H vs Q E hr h=>?_
 ·obtain⟨Hi,L,c,ds,r,c',sm,ej,oc,rp,e,_⟩:=h;obtain⟨⟨p,web,q⟩,⟨rfl,rfl,_⟩,_⟩:=F2 e;cases vs with
  | nil=>cases ej
  | cons v vr=>have rp:aw K Hi [.L (web.map pairD),.str q] vr:=rp;rw[gi,rp.length];rfl
 obtain⟨Hi,L,c,ds,r,c',sm,ej,oc,rp,e,kk⟩:=h;obtain⟨⟨p,web,q⟩,⟨rfl,rfl,U,hw,tq⟩,e0⟩:=F2 e;dsimp only at U hw tq;obtain⟨rfl,rfl⟩:r=.O (.L<|(cV web (ic fnD p web).1 q).map pairD)/\c'=pD (ic fnD p web).2:=by have e0:(r,c')=(Res.O<|.L<|(cV web (ic fnD p web).1 q).map pairD,pD (ic fnD p web).2):=e0;exact Prod.mk.inj e0
 clear e e0;have bO:=U.bO;have S0:=FI (N:=["_law_purse_here","_law_web_here","_law_name","_law_rows","_law_at","_law_room","_law_row","_law_k","_law_three","_law_one","_law_ring","_law_others","_law_spots"]) sm (by
  cases vs with
  | nil=>exact pd _
  | cons v vr=>have rp:aw K Hi [.L (web.map pairD),.str q] vr:=rp;rw[gi,rp.length];show 2+1<=13;decide) ej oc rp
 have nd:=nK.nd;obtain⟨f1,d1,G⟩:=TK (f:=f) (cdv:=cdv) (outer:=outer) (H:=H) (E:=E) T q1 sD hr;obtain⟨f2,d2,I⟩:=NY (f:=f) (cdv:=cdv) (outer:=outer) (H:=H) (E:=E) T q1 sD hr;obtain⟨f3,⟨t3,p3,q3⟩,e3⟩:=Sa (P:=P) (w:=w) (K:=K) (base:=base) (f:=f) (cdv:=cdv) (outer:=outer) (H:=H) (E:=E) T hr;obtain⟨f4,⟨t4,p4,q4⟩,e4⟩:=Sl (P:=P) (w:=w) (K:=K) (base:=base) (f:=f) (cdv:=cdv) (outer:=outer) (H:=H) (E:=E) T hr;have p5:PS (PX P w K mg base f cdv A outer s H E) (eY 5) (rK (pW K<|ff 3) (yZ K 2<|rJ (gV 9)<|rJ (gV 10) Ba) t3):=sQ XR ρ (oH<|pv 3) (zD ρ<|sN (mI (i:=9) nd ρ (by first|exact Ye ρ|exact X3 ρ))<|sN (mI (i:=10) nd ρ (by first|exact Ye ρ|exact X3 ρ)) xc) p3;obtain⟨t2,P2,Q2⟩:=d2.ex _ _<|jq p5 p4;obtain⟨t1,P1,Q1⟩:=d1.ex _ _ P2;have P0:=jq (Jg (P:=P) (w:=w) (K:=K) (base:=base) (f:=f) (cdv:=cdv) (A:=A) (outer:=outer) (s:=s) (H:=H) (E:=E) T) P1;rw[<-NU] at P0;refine⟨_,P0,?_⟩;clear P0 P1 P2 p5 p3 p4 d1 d2 q1 T F;obtain⟨vW,zW,pw,ws,rfl,V',Vs⟩:=S0.D 1 (.L<|web.map pairD) ρ;unfold kY nF;refine Iy (web:=web) (pw:=pw) (vs:=ws) zW (ι<|Rd.mono sm V') (by rw[Vs.length,bt]) bO.2 (fun j y W=>?_) fun D H1 ts rs U9 hD hd nw=>?_
 ·obtain⟨v,ev,a,us,rfl,sq,v1,_,rfl,x1,v2,_,rfl,⟨r,zs,rfl,rd,rz⟩,rfl⟩:=Vs.get (i:=j) (d:=pairD y) (by rw[c6,W];rfl);cases (show v1=.str y.1 from x1);rw[kS rz] at rd;exact⟨a,r,ev,aS.mono sm sq,ι<|Rd.mono sm rd⟩
 have UP:∀{b},H b=am->Hi b=am:=fun {b} e=>by
  cases e':Hi b with
  | none=>rfl
  | some o=>rw[sm b o e'] at e;cases e
 have lr:=nw.lr;have lt:=nw.lt;have sI:ag Hi fun b=>if b∈ts\/b∈rs then H1 b else Hi b:=fun b o e=>by
  have J:¬(b∈ts\/b∈rs):=fun z=>by have:H b=am:=z.elim (fun z=>(nw.nt b z).1) fun z=>(nw.nr b z).1;rw[UP this] at e;cases e
  simp only[if_neg J,e]
 have Wc:ag (fun b=>if b∈ts\/b∈rs then H1 b else Hi b) H1:=fun b o e=>by
  dsimp only at e;by_cases J:b∈ts\/b∈rs
  ·rw[if_pos J] at e;exact e
  rw[if_neg J] at e;exact U9 b o<|sm b o e
 have rI:∀(j:Nat) r y,rs[j]?=al r->web[j]?=al y->(fun b=>if b∈ts\/b∈rs then H1 b else Hi b) r=al (.L<|y.2.map V.str):=fun j r y G I=>by obtain⟨t,et⟩:=some_at (l:=ts) (j:=j) (by rw[lt,<-lr];exact (cm.1 G).1);exact (if_pos<|τ<|eH G).trans (nw.at_ j t r y et G I).2
 have rR:aw K (fun b=>if b∈ts\/b∈rs then H1 b else Hi b) (gH web rs) (ts.map V.ref):=by refine tU (by rw[Ge lr,bt,lt]) fun j d v G I=>?_;obtain⟨y,r,W,X,rfl⟩:=Eb G;rw[c6] at I;obtain⟨t,et,rfl⟩:=gW.1 I;exact wK.2 ⟨t,ρ,ι<|ι<|(if_pos<|ι<|eH et).trans (nw.at_ j t r y et X W).1⟩
 have iD:(fun b=>if b∈ts\/b∈rs then H1 b else Hi b) D=am:=by have J:¬(D∈ts\/D∈rs):=fun z=>z.elim (fun z=>(nw.nt D z).2 ρ) fun z=>(nw.nr D z).2 ρ;exact (if_neg J).trans (UP hD)
 obtain⟨Vt,Vu⟩:=S0.after (v:=.ref D) (r:=.O<|.L<|gH web rs) U9 sI Wc (fun b o e=>by
  by_cases J:b∈ts\/b∈rs
  ·exact τ<|ι (J.elim (fun z=>(nw.nt b z).1) fun z=>(nw.nr b z).1)
  rw[if_neg J] at e;exact ι e) ⟨D,ρ,⟨_,hd,rR,iD⟩,hD⟩
 have S1:=Vt.put (i:=3) Vu (Z':=[.io (pD p),.D<|.L<|web.map pairD,.D<|.str q,.O<|.L<|gH web rs,.no,.no,.no,.no,.no,.no,.no,.no,.no]) ρ;clear Vt Vu rR;generalize (fun b=>if b∈ts\/b∈rs then H1 b else Hi b)=Wf at *;have gy:=nw.nd;have UL:∀r∈rs,H r=am:=fun r hr=>(nw.nr r hr).1;clear nw U9 hd hD iD lt;have lR:=Ge lr;obtain⟨_,Wg⟩:=ni sD p (m:=web.length) (by omega) (by omega);obtain⟨x,ex⟩:=some_at Wg;obtain⟨r0,Vv⟩:=some_at (l:=rs) (j:=(dr fnD p web.length).1) (by omega);have eg:web.getD (dr fnD p web.length).1 ("",[])=x:=by rw[gm,ex];rfl
 have hx:=eH ex;have Vw:=U.rg x hx;have lx:=U.len hx;have Vx:=G p (.L<|web.map pairD) q x.1 r0 (gH web rs) (by omega) (by omega) (by rw[lR];exact Bb ex Vv);rw[lR] at Vx;refine Q1 _ _ _ _ _ _ _ _ Vx S1 fun σ2 H2 Hi2 S2 s2=>?_;have Wh:=My S2 (i:=6) (d':=.L<|x.2.map .str) ρ fun v rv=>by
  cases (show v=.ref r0 from rv);exact⟨r0,_,ρ,ι<|s2 _ _<|rI _ r0 x Vv ex,gE _⟩
 have Wi:=I (dr fnD p web.length).2 (.L<|web.map pairD) q x.1 x.2 (.O<|.L<|gH web rs) (.D<|.int ((dr fnD p web.length).1:Int)) (by omega) (by omega);refine Q2 _ _ _ _ _ _ _ _ Wi Wh fun Wj H3 Hi3 S3 s3=>?_;have Wl:(ic fnD p web)=([x.1,dE x.2 (dr fnD (dr fnD p web.length).2 x.2.length).1,x.2.getD (dr fnD (dr fnD p web.length).2 x.2.length).1 ""],(dr fnD (dr fnD p web.length).2 x.2.length).2):=by unfold ic;rw[eg]
 obtain⟨_,Wm⟩:=ni sD (dr fnD p web.length).2 (m:=x.2.length) (by omega) (by omega);have UY:x.1∈web.map (·.1):=bg.2 ⟨x,hx,ρ⟩;have sc:aE (cu web x.1) (dE x.2 (dr fnD (dr fnD p web.length).2 x.2.length).1) (x.2.getD (dr fnD (dr fnD p web.length).2 x.2.length).1 ""):=by rw[cM U.nd hx];exact ou.2 ⟨_,Wm,ρ,ρ⟩
 rw[Wl] at kk;dsimp only at kk;generalize (dr fnD (dr fnD p web.length).2 x.2.length).2=p2 at *;generalize UI:[x.1,dE x.2 (dr fnD (dr fnD p web.length).2 x.2.length).1,x.2.getD (dr fnD (dr fnD p web.length).2 x.2.length).1 ""]=M at *;have Wo:∀n∈M,bf n:=fun n hn=>by
  rw[<-UI] at hn;rw[cM U.nd hx] at sc;simp only[eS,fv,or_false] at hn;rcases hn with rfl|rfl|rfl
  ·exact U.txt<|ι UY
  ·exact U.txt (Vw.2.2 _ sc.mem.1).1
  exact U.txt (Vw.2.2 _ sc.mem.2).1
 have Wp:M.length=3:=by rw[<-UI];rfl
 have Wq:∀y∈web,y.1∈M->∃j l,j<y.2.length/\jg y.2 (M.filter fun o=>!bd (o=y.1))=j::l:=fun y O Wr=>by
  have Vy:y.1∈web.map (·.1):=bg.2 ⟨y,O,ρ⟩;obtain⟨o1,o2,o3⟩:=HB<|hw.C.apart UY sc;have go:∀{u v:e6},aE (cu web y.1) u v->(∀z,z∈(M.filter fun o=>!bd (o=y.1)) ↔ z=u\/z=v)->∃j l,j<y.2.length/\jg y.2 (M.filter fun o=>!bd (o=y.1))=j::l:=fun s h=>by rw[cM U.nd O] at s;exact (DJ (q:=q) (U.rg y O).2.1 (U.rg y O).1 s h).2
  have UW:=Wr;rw[<-UI] at UW;simp only[eS,fv,or_false] at UW;rcases UW with e|e|e
  ·exact go (u:=_) (v:=_) (e ▸ sc) (by rw[e,<-UI];exact o1)
  ·exact go (e ▸ hw.C.gU x.1 UY _ _ sc (e ▸ Vy)) (by rw[e,<-UI];exact o2)
  exact go (e ▸ hw.C.gP x.1 UY _ _ sc (e ▸ Vy)) (by rw[e,<-UI];exact o3)
 obtain⟨UC,v8,z8,S4,s4,g,Va,rfl,be,UQ⟩:=S3.kB (i:=8) ρ;rw[kS UQ] at be;obtain⟨D,z3,⟨vr,UZ,Vb,nD⟩,nlD,Vz⟩:=S4.O 3 _ ρ;obtain⟨Vc,z0,VA,Ws⟩:=S4.io 0 _ ρ;cases (show al L=al Vc from Ws);obtain⟨vq,zq,Wt⟩:=S4.D 2 _ ρ;cases (show vq=.str q from Wt);have Wu:Wj.length=13:=S4.len.symm;have Vd:H L≠am:=by obtain⟨⟨o,e⟩,_⟩:=oc.some;rw[e];simp
 have U0:L∉rs:=fun z=>Vd<|UL L z;have U1:ag Wf UC:=s2.trans<|s3.trans s4;have r4:∀(j:Nat) r y,rs[j]?=al r->web[j]?=al y->H3 r=al (.L<|y.2.map V.str):=fun j r y G I=>S4.sub _ _<|U1 _ _<|rI j r y G I;have U2:∀{j:Nat}{r:dn},rs[j]?=al r->∃y,web[j]?=al y:=fun {j r} e=>some_at (by rw[<-lr];exact (cm.1 e).1);have U3:D∉rs:=fun z=>by obtain⟨j,R⟩:=uz z;obtain⟨y,O⟩:=U2 R;rw[U1 _ _ (rI j D y R O)] at nD;cases nD
 have n8:g∉rs/\H g=am/\g≠D:=by
  obtain⟨S,w8,o8,_,n0⟩:=S3.O 8 _ ρ;rw[z8] at w8;cases w8;refine⟨fun z=>?_,n0,fun z=>?_⟩
  ·obtain⟨j,R⟩:=uz z;obtain⟨y,O⟩:=U2 R;have:=(s2.trans s3) _ _ (rI j g y R O);rw[o8.some.2] at this;cases this
  have:=S3.ne 3 8 _ _ D (ι ρ) (ι ρ) z3 (by rw[<-z];exact z8);omega
 have U4:∀b o,H b=al o->b≠L->H3 b=al o:=fun b o e J=>S4.keep b o e fun ⟨k,z⟩=>by
  dsimp only at z;split at z
  ·cases z;exact J ρ
  cases z
 have VB:∀{i:Nat}{v:V},vr[i]?=al v->∃y r t,web[i]?=al y/\rs[i]?=al r/\v=.ref t/\aS K UC t [.str y.1,.ref r]:=fun {i v} e=>by
  obtain⟨y,W⟩:=some_at (l:=web) (j:=i) (by have:=(cm.1 e).1;rw[Vb.length,lR] at this;exact this)
  obtain⟨r,X⟩:=some_at (l:=rs) (j:=i) (by rw[lr];exact (cm.1 W).1);obtain⟨v',ev,rv⟩:=Vb.get<|Bb W X;rw[e] at ev;cases ev;obtain⟨t,rfl,sq⟩:=wK.1 rv;exact⟨y,r,t,W,X,ρ,sq⟩
 have uA:∀{t:dn}{o:HO},UC t=al o->(∀xs,o≠.L xs)->(∀u xs,o≠.aV u (.L xs))->t∉rs:=fun {t o} e n _ z=>by obtain⟨j,R⟩:=uz z;obtain⟨y,O⟩:=U2 R;rw[U1 _ _ (rI j t y R O)] at e;cases e;exact n _ ρ
 refine⟨_,z3,D,ρ,⟨_,bA.of UZ⟩,wk (xs:=vr) (fun i σ H'=>σ.length=13/\σ[0]?=al (al<|.ref L)/\σ[2]?=al (al<|.str q)/\σ[3]?=al (al<|.ref D)/\(∃g,σ[8]?=al (al<|.ref g)/\Rd H' g (.L<|M.map V.str)/\g∉rs/\H g=am/\g≠D)/\(∀b o,H3 b=al o->b∉rs->H' b=al o)/\∀(j:Nat) r y,rs[j]?=al r->web[j]?=al y->H' r=al (.L<|(if j<i then (mP M q y).2 else y.2).map V.str)) ⟨Wu,z0,zq,z3,⟨g,z8,Rd.mono S4.sub be,n8⟩,fun _ _ e _=>e,fun j r y G I=>by rw[if_neg (Yw j)];exact r4 j r y G I⟩ ?_ ?_ ?_⟩
 ·rintro i σ H' _ ⟨_,_,_,_,_,k,_⟩;exact bA.of<|k D _ UZ U3
 ·rintro i v σ H' hv ⟨l,y0,y2,y3,⟨g,y8,be,n8⟩,kp,kr⟩;obtain⟨y,r,t,W,X,rfl,sq⟩:=VB hv;have O:=eH W;have Vg:=kr i r y X W;rw[if_neg (z9 i)] at Vg;have mr:=eH X;refine⟨t,_,ρ,BC sq (fun o e n1 n2=>kp t o (S4.sub t o e)<|uA e n1 n2),ρ,_,_,ρ,_,_,ρ,ρ,?_⟩;obtain⟨o,eo,t11,t12,rfl⟩:=e3 L D q y.1 y.2 M tq (U.txt<|ι<|bg.2 ⟨y,O,ρ⟩) (fun n hn=>U.txt ((U.rg y O).2.2 n hn).1) Wo (by have:=U.len O;omega) Wp<|Wq y O;have Wx:r≠g:=fun z=>n8.1<|z ▸ mr;have g2:∀{k:Nat}{v:Option V},k≠9->k≠10->σ[k]?=al v->((σ.set 9<|al<|.str y.1).set 10 (al<|.ref r))[k]?=al v:=fun {k v} h1 h2 e=>by rw[gD (Ne.symm h2),gD<|Ne.symm h1];exact e
  have S5:=Ur (K:=K) (Z:=[.D (.adr L),.no,.D<|.str q,.D<|.adr D,.no,.no,.no,.no,.D<|.L<|M.map .str,.D<|.str y.1,.io<|.L<|y.2.map .str,.no,.no]) (σ:=(σ.set 9<|al<|.str y.1).set 10 (al<|.ref r)) (H:=H') (Hi:=jR H' [g]) (k:=10) (r:=r) (c:=.L<|y.2.map .str) qW (by rw[nL,nL,l];rfl) (nM ⟨_,g2 (by decide) (by decide) y0,ρ⟩ <| eJ rfl <| nM ⟨_,g2 (by decide) (by decide) y2,rfl⟩ <| nM ⟨_,g2 (by decide) (by decide) y3,rfl⟩ <| eJ rfl <| eJ rfl <| eJ rfl <| eJ rfl <| nM ⟨_,g2 (by decide) (by decide) y8,g,_,rfl,C9 (by simp) be,gE _⟩ <| nM ⟨_,by rw[gD (by decide)];exact ka (by omega),ρ⟩ <| eJ rfl <| eJ rfl <| eJ rfl Hf) (fun i c e=>by cases mA.1 (show _=bi from ρ:List.all _ Eh=bi) _ (eH e)) (fun i c e=>vP (A:=[_,_,_,_,_,_,_,_,_,_]) (B:=[_,_]) ρ e) (ka (by rw[nL];omega)) ⟨_,Vg,gE _,GG (by simpa using Wx) fun xs rd=>by rcases rd with e|⟨u,e⟩<;>rw[Vg] at e<;>cases e⟩;refine q3 _ _ _ _ _ _ _ _ eo S5 fun σ6 H6 Wy S6 s6=>?_;have k6:∀b o,H' b=al o->b≠r->H6 b=al o:=fun b o e n=>S6.keep b o e fun ⟨k,z⟩=>by
   dsimp only at z;split at z
   ·cases z;exact n ρ
   cases z
  obtain⟨v0,w0,x0⟩:=S6.D 0 _ ρ;cases (show v0=.ref L from x0);obtain⟨v2,w2,x2⟩:=S6.D 2 _ ρ;cases (show v2=.str q from x2);obtain⟨v3,w3,x3⟩:=S6.D 3 _ ρ;cases (show v3=.ref D from x3);obtain⟨v8,w8,S,Va,rfl,UX,VW⟩:=S6.D 8 _ ρ;rw[kS VW] at UX;obtain⟨r',w10,⟨vs10,VC,VX,_⟩,WG⟩:=S6.io 10 _ ρ;cases (show al r=al r' from WG);rw[kS VX] at VC;refine⟨S6.len.symm,w0,w2,w3,⟨S,w8,Rd.mono S6.sub UX,?_⟩,fun b o e J=>k6 b o (kp b o e J) (fun z=>J<|z ▸ mr),fun j r2 y2 G I=>?_⟩
  ·have alive:∀b,H' b=am->b∉rs/\H b=am/\b≠D:=fun b e=>by
    have nr:b∉rs:=fun z=>by obtain⟨j,R⟩:=uz z;obtain⟨y,O⟩:=U2 R;rw[kr j b y R O] at e;cases e
    refine⟨nr,?_,fun z=>by rw[z,kp D _ UZ U3] at e;cases e⟩;cases e':H b with
    | none=>rfl
    | some o =>
     by_cases J:b=L
     ·obtain⟨⟨o,e3⟩,_⟩:=VA.some;rw[J,kp L o e3 U0] at e;cases e
     rw[kp b o (U4 b o e' J) nr] at e;cases e
   have key:∀o,Wy S=al o->(o=.L (M.map V.str)\/∃u,o=.aV u (.L<|M.map V.str))->S∉rs/\H S=am/\S≠D:=fun o e ho=>by
    rcases S6.nw S o e with z|z|⟨xs,z⟩
    ·by_cases h:S=g
     ·rw[h];exact n8
     have e':=qW _ _ z;have:=GG (Hi:=H') (as:=[g]) (b:=S) (by simpa using h) fun xs rd=>by rcases ho with rfl|⟨u,rfl⟩<;>rcases rd with q|⟨u',q⟩<;>rw[q] at e'<;>cases e'
     rw[show jR H' [g] S=al o from z] at this;cases this
    ·exact alive S z
    rcases ho with rfl|⟨u,rfl⟩<;>cases z
   rcases UX with e|⟨u,e⟩
   ·exact key _ e<|ι ρ
   exact key _ e<|τ ⟨u,ρ⟩
  by_cases R:r2=r
  ·subst R;have:=jf gy G X;subst this;rw[W] at I;cases I;rw[if_pos (Y0 _)];exact VC
  rw[k6 r2 _ (kr j r2 y2 G I) R];have hne:j≠i:=fun z=>R (by rw[z,X] at G;cases G;rfl);by_cases c:j<i
  ·rw[if_pos c,if_pos (by omega)]
  rw[if_neg c,if_neg (by omega)]
 rintro σ H' ⟨l,y0,y2,y3,⟨g,y8,be,n8⟩,kp,kr⟩;have lv:vr.length=web.length:=by rw[Vb.length,lR]
 have WJ:∀(j:Nat) r y,rs[j]?=al r->web[j]?=al y->H' r=al (.L<|(mP M q y).2.map V.str):=fun j r y G I=>by have:=kr j r y G I;rw[if_pos (by rw[lv];exact (cm.1 I).1)] at this;exact this
 obtain⟨Y,h7⟩:∃Y:Hp,∀b,Y b=if b∈rs\/b=g then H' b else UC b:=⟨_,fun _=>rfl⟩;have Vi:∀{b},b∈rs\/b=g->Y b=H' b:=fun {b} h=>(h7 b).trans (if_pos h);have UE:∀{b},¬(b∈rs\/b=g)->Y b=UC b:=fun {b} h=>(h7 b).trans (if_neg h);have t7:∀{t:dn}{o:HO},UC t=al o->(∀xs,o≠.L xs)->(∀u xs,o≠.aV u (.L xs))->Y t=al o:=fun {t o} e a b=>by
  have h1:=uA e a b;have h2:t≠g:=fun z=>by
   have:=kp t o (S4.sub t o e) h1;rw[z] at this;rcases be with r|⟨u,r⟩<;>rw[r] at this<;>cases this
   ·exact a _ ρ
   exact b _ _ ρ
  rw[UE fun z=>z.elim h1 h2];exact e
 have n7:∀{b},UC b=am->b∉rs->b≠g->Y b=am:=fun {b} e h1 h2=>(UE fun z=>z.elim h1 h2).trans e;have WM:aw K Y (gH web rs) vr:=tU (by rw[lR,lv]) fun j d v G I=>by obtain⟨y,r,W,X,rfl⟩:=Eb G;obtain⟨y',r',t,VD,VE,rfl,sq⟩:=VB I;rw[W] at VD;cases VD;rw[X] at VE;cases VE;exact wK.2 ⟨t,ρ,BC sq fun o e a b=>t7 e a b⟩
 have VF:L≠D:=fun z=>Vd<|z ▸ Vz;have WN:L≠g:=fun z=>Vd<|z ▸ n8.2.1;obtain⟨WO,h0,WR,i0⟩:=VA;have UG:∀{b},gx (fun k=>if k=0 then al L else am) b->b=L:=fun {b} ⟨k,z⟩=>by
  dsimp only at z;split at z
  ·cases z;rfl
  cases z
 have WT:Rd Y g (.L<|M.map V.str):=by unfold Rd at be ⊢;rw[Vi (τ ρ)];exact be
 have S7:SR K (H,Hi) (fun k=>if k=0 then al L else am) [.io (pD p2),.no,.D<|.str q,.O<|.L<|gH web rs,.no,.no,.no,.no,.D<|.L<|M.map .str,.no,.no,.no,.no] σ H' Y:={
  sub:=fun b o e=>by
   by_cases h:b∈rs\/b=g
   ·rw[Vi h] at e;exact e
   rw[UE h] at e;exact kp b o (S4.sub b o e) fun z=>h<|ι z
  keep:=fun b o e n=>kp b o (U4 b o e fun z=>n ⟨0,by rw[z];rfl⟩) fun z=>by have e:H b=al o:=e;rw[UL b z] at e;cases e
  dB:=fun b h=>by rw[UG h,kp L _ h0 U0];simp
  D:=eJ ρ <| eJ rfl <| nM ⟨_,y2,rfl⟩ <| eJ rfl <| eJ rfl <| eJ rfl <| eJ rfl <| eJ rfl <| nM ⟨_,y8,g,_,rfl,WT,gE _⟩ <| eJ rfl <| eJ rfl <| eJ rfl <| eJ rfl Hf
  O:=fun i c e=>by obtain⟨rfl,rfl⟩:=xw (A:=[_,_,_]) (B:=[_,_,_,_,_,_,_,_,_]) ρ e;exact⟨D,y3,⟨vr,kp D _ UZ U3,WM,n7 nD U3 n8.2.2.symm⟩,fun h=>VF (UG h).symm,Vz⟩
  io:=fun i c e=>by obtain⟨rfl,rfl⟩:=vP (A:=[]) (B:=[_,_,_,_,_,_,_,_,_,_,_,_]) ρ e;exact⟨L,y0,⟨WO,kp L _ h0 U0,WR,n7 i0 U0 WN⟩,ρ⟩
  ne:=fun i j c c' b a1 a2 b1 b2=>QZ VF y0 y3 (a1.imp (fun e=>(xw (A:=[_,_,_]) (B:=[_,_,_,_,_,_,_,_,_]) ρ e).1) fun e=>(vP (A:=[]) (B:=[_,_,_,_,_,_,_,_,_,_,_,_]) ρ e).1) (a2.imp (fun e=>(xw (A:=[_,_,_]) (B:=[_,_,_,_,_,_,_,_,_]) ρ e).1) fun e=>(vP (A:=[]) (B:=[_,_,_,_,_,_,_,_,_,_,_,_]) ρ e).1) b1 b2
  len:=l.symm
  nw:=fun b o e=>by
   by_cases h:b∈rs\/b=g
   ·exact τ<|ι (h.elim (UL b) fun z=>z ▸ n8.2.1)
   rw[UE h] at e;exact S4.nw b o e}
 obtain⟨o,eo,Z,rfl,hZ⟩:=e4 (pD p2) q (gH web rs) M (by omega);refine q4 _ _ _ _ _ _ _ _ eo S7 fun v σ8 H8 WU S8 s8 rr=>?_;obtain⟨pr,rfl,⟨Va,h8,UQ,i8⟩,_,WX,_⟩:=rr;obtain⟨Vc,_,WY,e8⟩:=S8.io 0 _ hZ;cases (show al L=al Vc from e8);refine kk (.ref pr) H8 WU (fun b o e n=>S8.keep b o e fun h=>n<|UG h) (fun b o e=>s8 b o ?_) S8.sub (fun b o e=>S8.nw b o e) WY ⟨pr,ρ,⟨Va,h8,?_,i8⟩,WX⟩
 ·have J:=sm b o e;rw[UE fun z=>z.elim (fun z=>by rw[UL b z] at J;cases J) fun z=>by rw[z,n8.2.1] at J;cases J];exact U1 b o<|sI b o e
 have l8:=UQ.length;rw[eW,lR] at l8;refine tU (by unfold cV;rw[bt,eW,bt,l8];rfl) fun j d v G I=>?_
 unfold cV at G;rw[gf,gk] at G;by_cases R:j<web.length
 ·rw[hG (by rw[bt];exact R),c6] at G;obtain⟨y,W,rfl⟩:=gW.1 G;obtain⟨r,X⟩:=some_at (l:=rs) (j:=j) (by omega);obtain⟨v',ev,rv⟩:=UQ.get (i:=j) (by rw[hG (by omega)];exact Bb W X);rw[I] at ev;cases ev;obtain⟨t,rfl,sq⟩:=wK.1 rv;exact⟨t,_,ρ,sq,_,_,ρ,ρ,_,_,ρ,⟨r,_,ρ,ι<|s8 _ _<|(Vi<|ι<|eH X).trans (WJ j r y X W),gE _⟩,ρ⟩
 have lj:=(cm.1 I).1;have:j=web.length:=by rw[l8] at lj;have:[pairD (q,M)].length=1:=ρ;omega
 subst this;rw[hE (by rw[bt];exact fj _),bt,Zb] at G;cases G;obtain⟨v',ev,rv⟩:=UQ.get (i:=web.length) (d:=pairD (q,M)) (by rw[hE (by omega),lR,Zb];rfl);rw[I] at ev;cases ev;exact rv
def C2(fn:a8):Prop:=∀a:List Int,a.length<=63->(∀n∈a,kn n)->fn [.cw a]=al (.D<|.bl true)
theorem OU{p c:Int×Int}(h:pD p=pD c):p=c:=by unfold pD at h;injection h with h;injection h with b a;injection b with b;injection a with a;injection a with a;exact acb b a
theorem R0{fnD:cz}(p:Int×Int){web:ay}{q:e6}(h:ba web)(hw:cv web)(e:bf q):qf fnD (pD p) [.L (web.map pairD),.str q]=al (.O<|.L<|(cV web (ic fnD p web).1 q).map pairD,pD (ic fnD p web).2):=by have ex:∃t,xh (pD p) [.L (web.map pairD),.str q] t:=⟨(p,web,q),ρ,ρ,h,hw,e⟩;unfold qf;rw[dif_pos ex];obtain⟨a,b,_⟩:=ex.choose_spec;generalize ex.choose=t at a b;obtain⟨p',web',q'⟩:=t;cases OU a;dsimp only at b;injection b with d c;injection d with d;injection c with c;injection c with c;subst c;cases Fd d;rfl
theorem Ih{fnD:cz}(c:jW fnD)(p:Int×Int){web:ay}(h:ba web):∃x a b,(ic fnD p web).1=[x,a,b]/\x∈web.map (·.1)/\aE (cu web x) a b:=by
 have bO:=h.bO;obtain⟨_,d⟩:=ni c p (m:=web.length) (by omega) (by omega);obtain⟨x,ex⟩:=some_at d;have f:web.getD (dr fnD p web.length).1 ("",[])=x:=by rw[gm,ex];rfl
 have hx:=eH ex;have lx:=h.len hx;have rgx:=(h.rg x hx).1;obtain⟨_,e⟩:=ni c (dr fnD p web.length).2 (m:=x.2.length) (by omega) (by omega);dsimp only[ic];rw[f];refine⟨_,_,_,ρ,bg.2 ⟨x,hx,ρ⟩,?_⟩;rw[cM h.nd hx];exact ou.2 ⟨_,e,ρ,ρ⟩
theorem IY(T:Txt mg){R S:a8}{U V fnD:cz}(q1:aY P w K mg base "_law_purse" 2 (aI K R))(s1:Gw R)(q2:aY P w K mg base "_law_floor" 3 (dy K 0 U))(Y:Hj U)(q3:aY P w K mg base "_law_web" 4 (aI K S))(s3:Hv S)
 (q4:aY P w K mg base "_law_turned_web" 2 (dy K 0 V))(s4:Ci V)(p1:aY P w K mg base "_law_draw" 1 (dy K 0 fnD))(sD:jW fnD)(q5:aY P w K mg base "bars" 5 (aI K tO))(q6:aY P w K mg base "_law_right" 6 (aI K EI))(q7:aY P w K mg base "_law_put_inside" 2 (dy K 0<|qf fnD)){f:dn}{fd:kq}(F:bz K "law" "law" xB f fd):∃fn,br P w K mg base bj 7 f fd ["_law_script"] (aI K fn)/\C2 fn:=by
 refine' cI F DL (n:=1) ρ ?hb ?post
 case hb=>have nd:=DL.nd;walk_at "h"
 case post =>
  clear T F q1 q2 q3 q4 q5 q6 q7 p1;intro o UG hb;obtain⟨p0,e1⟩:=s1 o UG hb;obtain⟨_,_,e2,rs,p2,rfl,rfl,d,l6,nq⟩:=Y p0 6 (by decide) (by decide);have F:=d.fl;have so:∀x∈rs,vS rs x.2:=fun x _=>F.some x.2;have f8:=F.bO;have e3:=s3 rs (by omega) (fun y hy=>F.ok hy) fun x hx k hk=>(DQ hk<|so x hx).1;have ew:(rs.map fun x=>(x.1,bS rs x.2 0++(bS rs x.2 1).reverse++(bS rs x.2 2).reverse++bS rs x.2 3))=iU rs:=wm fun x hx=>by rw[Pl (so x hx)]
  rw[ew] at e3;obtain⟨C,W⟩:=d.web;have r:=C.bO;obtain⟨_,_,e4,L,p,rfl,rfl,M⟩:=s4 p2 (iU rs) r.1 r.2 fun z hz=>by have a:=(C.rg z hz).1;have b:=C.len hz;lia
  obtain⟨h,hw⟩:=M.ok C W;have nb:=MA d M h hw;have lw:L.length<=6:=by have:=M.1.length_eq;rw[bt,bt] at this;unfold iU at this;rw[bt] at this;lia
  have UO:∀n∈L.map (·.1),n∉jc:=fun n N=>by have:=M.1.mem_iff.1 N;rw[show (iU rs).map (·.1)=rs.map (·.1) by unfold iU;rw[gk];rfl] at this;obtain⟨x,hx,rfl⟩:=bg.1 this;exact nq x hx
  have D:=rQ (g:=fun web=>.O<|.L<|(dI web).map aF) h hw;rw[nb] at D;have O:=rQ (g:=fun _=>.D<|.bl true) h hw;have UP:dR true (.L []) (.L [])=al (.D<|.bl false):=by rw[qj (by decide) (by decide),iF];rfl
  obtain⟨e5,lt5⟩:=ni sD p (m:=2) (by decide) (by decide);have si:gZ (.L<|jc.map .str) am (al<|1+((dr fnD p 2).1:Int))=al (.O<|.L<|(jc.take<|1+(dr fnD p 2).1).map .str):=by rw[show (1:Int)+((dr fnD p 2).1:Int)=((1+(dr fnD p 2).1:Nat):Int) by lia];exact B6 jc<|1+(dr fnD p 2).1
  clear nq ew so f8 r C W;refine' dz ρ ?w
  case w =>
   show WS _ [.D (.cw o),.no,.no,.no] _;refine' aj<|aH (Z2:=[.D (.cw o),.O<|pD p0,.no,.no]) (aO (af ρ ao) e1) ρ<|aq ?_;refine' aj<|aH (Z2:=[.D (.cw o),.O<|pD p,.O<|.L<|L.map pairD,.no]) (dM ρ (af (ai (aO (af (ai (dM ρ (af ρ ao) ρ e2 ρ) ρ) ao) e3) ρ) ao) ρ e4 ρ) ρ<|aq ?_;refine aj (fJ (v_or (bM<|au (ai (aO (af ρ ao) D) ρ) (ai (cG ao<|pd _) ρ) UP)<|nz ρ<|mG<|fq (ai (aO (af ρ ao) O) ρ) ρ) (fun z=>by cases z) fun _=>aZ<|aq ?_);refine' aj (fu (fun j Z=>∃(web:ay) (q:Int×Int) (v Q:Slot),(v=.O (.L<|web.map pairD)\/v=.D (.L<|web.map pairD))/\Fr Q/\ba web/\cv web/\web.length<=6+j/\(∀n∈web.map (·.1),n∉jc.drop j)/\Z=[.D (.cw o),.O<|pD q,v,Q]) (da<|ai (oK (ai (cG (af ρ<|af ρ ao) (by show 2<=dk;unfold dk;decide)) ρ) (ai (au ρ (ai (dM ρ (af ρ ao) ρ e5 ρ) ρ) ρ) ρ) si) ρ) ⟨L,_,_,_,τ ρ,ι ρ,h,hw,lw,UO,ρ⟩ ?st ?fin)
   case fin=>rintro _ ⟨web,q,v,Q,_,_,_,_,_,_,rfl⟩;exact aq<|aj<|cc ρ ⟨_,ρ⟩
   case st =>
    clear e1 e2 e3 e4 e5 D O si nb;rintro j x hx _ ⟨web,q,v,Q,Y,f3,hF,hO,hl,N,rfl⟩;rw[c6] at hx;obtain⟨n,B,rfl⟩:=gW.1 hx;have UT:j<1+(dr fnD p 2).1:=by have:=(cm.1 B).1;rw[hY] at this;omega
    rw[ZE,if_pos UT] at B;have X:=(cm.1 B).1;have X:j<2:=X;have mq:=eH B;have nn:dD n=bi:=by simp only[eS,fv,or_false] at mq;rcases mq with rfl|rfl<;>decide +kernel
    have tn:=rW nn;obtain⟨x,a,b,UX,UY,sc⟩:=Ih sD q hF;have UZ:n∉web.map (·.1):=fun z=>N n z (by rw[XF];exact⟨0,by simp only[xr,acT];exact B⟩)
    obtain⟨u,G,np⟩:=KD hF hO UY sc UZ nn (by omega);have ep:=R0 (fnD:=fnD) q hF hO tn;rw[UX] at ep;have U0:=HF web [x,a,b] n;have U1:(cV web [x,a,b] n).length<=6+(j+1):=by unfold cV;simp only[eW,bt,Hz];omega
    generalize cV web [x,a,b] n=t at *;have D:=rQ (g:=fun web=>.O<|.L<|(dI web).map aF) u G;have O:=rQ (g:=fun _=>.D<|.bl true) u G;have U2:dR false (.L<|(dI t).map aF) (.L [])=al (.D<|.bl false):=by rw[v_eq (pf fun c hc=>(GZ u c hc).2) (by decide),iF];obtain⟨c,l,e⟩:=aaF np;rw[e];rfl
    refine⟨[.D (.cw o),.O<|pD q,v,.D<|.str n],by rcases f3 with rfl|⟨d,rfl⟩<;>rfl,?_⟩;refine' aj<|aH (Z2:=[.D (.cw o),.O<|pD (ic fnD q web).2,.O<|.L<|t.map pairD,.D<|.str n]) (dM ρ (af (d:=.L<|web.map pairD) (Z1:=[.D (.cw o),.O<|pD q,.D<|.L<|web.map pairD,.D<|.str n]) ?a1<|af ρ ao) ρ ep ρ) ρ<|aq ?a2
    case a1=>rcases Y with rfl|rfl<;>rfl
    case a2 =>
     refine aj (fJ (v_or (mG<|fq (ai (aO (af ρ ao) O) ρ) ρ)<|nz ρ<|bM<|au (ai (aO (af ρ ao) D) ρ) (ai (cG ao<|pd _) ρ) U2) (fun z=>by cases z) fun _=>aZ<|aq<|aZ ⟨t,_,_,_,τ ρ,τ ⟨_,ρ⟩,u,G,U1,fun m hm=>?_,ρ⟩);rw[U0] at hm;rcases ee.1 hm with z|z
     ·exact fun I=>N m z (by rw[XF] at I ⊢;obtain⟨i,J⟩:=I;rw[xr] at J;exact⟨1+i,by simp only[xr,<-J];congr 1;lia⟩)
     rw[n6.1 z];intro I;rw[XF] at I;obtain⟨i,J⟩:=I;rw[xr] at J;have:=jf (show jc.Nodup by decide +kernel) J B;lia
end
section
open W
section
variable{P:kH}{w:pe}{K:ft}{mg:e6->Option cA}{base:ph}
structure DI (K:ft) (x:e6) (s:Xs) (f:dn):Prop where
 a:Xa K k7 x=al (al<|.ref f)
 l:∃fd,bz K x x s f fd
 k:aad K (.ref f)=bi
def DI.ok{x:e6}{s:Xs}{f:dn}{e:kq}{c:List e6}{k:Nat}{sp:Sp}{h:ph}(d:DI K x s f)(X:K.In h)(G:h.Ns k7 mg)(F:bz K x x s f e)(o:br P w K mg base bj k f e c sp)(b:∀(kV g pm:cA) (i:Option dn) (cdv ct:cA) (us:List cA),us.length=c.length->ab1 (aas x x (oj s) (fN s) (aP s) .none kV g pm i cdv ct) ⟨us,[]⟩=pure (c.zip us)):aY P w K mg base x k sp:=⟨f,e,c,o,aac X G d.a,d.k,F.binds b⟩
def DI.go{h:ph}{x:e6}{s:Xs}{f:dn}{a:List e6}{k:Nat}{e:Type}{Sp:e->Sp}{S:e->Prop}(X:K.In h)(G:h.Ns k7 mg)(d:DI K x s f)(o:∀{c:kq},bz K x x s f c->∃fn,br P w K mg base bj k f c a (Sp fn)/\S fn)(b:∀(kV g pm:cA) (i:Option dn) (cdv ct:cA) (us:List cA),us.length=a.length->ab1 (aas x x (oj s) (fN s) (aP s) .none kV g pm i cdv ct) ⟨us,[]⟩=pure (a.zip us)):∃fn,aY P w K mg base x k (Sp fn)/\S fn:=by obtain⟨c,F⟩:=d.l;obtain⟨fn,q,r⟩:=o F;exact⟨fn,d.ok X G F q b,r⟩
def Hn:∀{us:List b},us.length=1->∃a,us=[a]:=List.length_eq_one_iff.1
theorem CM (h:us.length=2):∃a b,us=[a,b]:=by
 cases us with
 | nil=>cases h
 | cons a r=>obtain⟨b,rfl⟩:=Hn<|Nat.succ.inj h;exact⟨a,b,ρ⟩
theorem FT (h:us.length=3):∃a b c,us=[a,b,c]:=by
 cases us with
 | nil=>cases h
 | cons a r=>obtain⟨b,c,rfl⟩:=CM<|Nat.succ.inj h;exact⟨a,b,c,ρ⟩
theorem RW (h:us.length=4):∃a b c d,us=[a,b,c,d]:=by
 cases us with
 | nil=>cases h
 | cons a r=>obtain⟨b,c,d,rfl⟩:=FT<|Nat.succ.inj h;exact⟨a,b,c,d,ρ⟩
noncomputable def wR(K:ft):Sp:=λvs H Q _=>∃(a:dn) (b:List Int),vs=[.ref a]/\bA K H a (b.map V.int)/\b.length<=63/\(∀n∈b,kn n)/\∀H',Q (.bl true) H'
def K7 (s:C2 fn)(vs:List V)(H:Hp)(Q:VK)(E:XK)(h:wR K vs H Q E):aI K fn vs H Q E:=by obtain⟨a,b,rfl,c,hl,d,k⟩:=h;refine⟨H,[.cw b],_,ag.refl H,⟨.ref a,[],ρ,⟨a,ρ,c⟩,ρ⟩,s b hl d,?_⟩;rintro v e Hi2 _ _ _ _ f;cases (f);exact k e
end
local macro_rules | `(tactic| walk_at "bn")=>`(tactic| (intro _ _ _ _ _ _ us hl;first | (obtain⟨_,e⟩:=Hn hl;subst e;rfl) | (obtain⟨_,_,e⟩:=CM hl;subst e;rfl) | (obtain⟨_,_,_,e⟩:=FT hl;subst e;rfl) | (obtain⟨_,_,_,_,e⟩:=RW hl;subst e;rfl)))
def all_mk{l:abQ}{w:pe}{K:ft}{h:ph}{mg:e6->Option cA}{fa UJ UK UL UM UN UO UP UQ UR US UT UU UW UX UY UZ U0 U1 U2 U3 U4 U5 U6 U7 U8 U9 U' Va Vb Vc Vd Ve Vf Vg Vh Vi:dn}{j:dn}{t1 t2 t3 t4 t5 t6 t7:Tok}{nW:Nat}{WR:Array (Option cA)}(X:K.In h)(G:h.Ns k7 mg)(WT:mg "law"=al (.ref fa))
 (Vj:DI K "follower" Az UJ)
 (Vk:DI K "is_name" yT UK)
 (Vl:DI K "is_pair" ym UL)
 (Vm:DI K "is_ring" zP UM)
 (Vn:DI K "has_form" yG UN)
 (Vo:DI K "ties_are_shared" AS UO)
 (Vp:DI K "corners_of" yc UP)
 (Vq:DI K "corner_closes" Aw UQ)
 (Vr:DI K "corners_close" zL UR)
 (Vs:DI K "row_along" A' US)
 (Vt:DI K "wall_has_row" xj UT)
 (Vu:DI K "has_one_of" Ai UU)
 (Vv:DI K "all_reached" AE UW)
 (Vw:DI K "ties_of" y9 UX)
 (Vx:DI K "threes_of" AO UY)
 (Vy:DI K "must_web" Bc UZ)
 (Vz:DI K "_law_mixed" xV U0)
 (VA:DI K "_law_purse" x8 U1)
 (VB:DI K "_law_draw" yf U2)
 (VC:DI K "_law_names" zQ U3)
 (VD:DI K "_law_cut" Al U4)
 (VE:DI K "_law_floor" y6 U5)
 (VF:DI K "_law_meets" yx U6)
 (VG:DI K "_law_side" A2 U7)
 (VH:DI K "_law_neighbours" zM U8)
 (VI:DI K "_law_web" yj U9)
 (VJ:DI K "_law_turned_web" yC U')
 (x:DI K "law" xB Va)
 (VL:DI K "are_tied" AD Vb)
 (y:DI K "bars" kh Vc)
 (VM:DI K "_law_shut_after" zh Vd)
 (VN:DI K "_law_tied" Ao Ve)
 (VO:DI K "_law_corners" zE Vf)
 (VP:DI K "_law_due" yq Vg)
 (z:DI K "_law_right" k0 Vh)
 (A:DI K "_law_put_inside" kc Vi)
 (Q:Xa K k7 "len"=al am)
 (R:Xa K k7 "int"=al am)
 (d:Xa K k7 "isinstance"=al am)
 (t:Xa K k7 "range"=al am)
 (S:Xa K k7 "min"=al am)
 (U:Xa K k7 "max"=al am)
 (V:Xa K k7 "all"=al am)
 (B:Xa K k7 "dict"=al am)
 (m:Xa K k7 "sorted"=al am)
 (u:Xa K k7 "tuple"=al am)
 (C:Xa K k7 "list"=al am)
 (Y:Xa K k7 "str"=al am)
 (D:Xa K k7 "bool"=al am)
 (Z:Xa K k7 "any"=al am)
 (be:Xa K k7 "set"=al am)
 (UB:Xa K k7 "abs"=al am)
 (UC:Xa K k7 "sum"=al am)
 (f:Xa K k7 "enumerate"=al am)
 (UD:Xa K k7 "zip"=al am)
 (aW:Xa K k7 "WALLS"=al (al<|.ref j))
 (lW:K.lookup j=al ⟨.type "tuple",am,.seq #[.str "north" t1,.str "east" t2,.str "south" t3,.str "west" t4] nW,WR⟩)
 (aM:Xa K k7 "MOST_ROOMS"=al (al<|.int 8 t5))
 (aL:Xa K k7 "LONGEST_NAME"=al (al<|.int 8 t6))
 (aR:Xa K k7 "FEWEST_NEIGHBOURS"=al (al<|.int 3 t7)) :
  ∃fd:kq,(∀(s:ey) (v:cA),abJ s fd ⟨[v],[]⟩ [("_law_script",v)])/\∀base:ph,K.In base->base.Ns k7 mg->br l.prog w K mg base bj 7 fa fd ["_law_script"] (wR K):=by
 have e:=WT.symm.trans<|aac X G x.a;cases e;have T:Txt mg:=⟨sH X G Q,sH X G R,sH X G d,sH X G t,sH X G S,sH X G U,sH X G V,sH X G B,sH X G m,sH X G u,sH X G C,sH X G Y,sH X G D⟩;obtain⟨UE,E⟩:=x.l;obtain⟨_,_,_,_,_,_,_,_,_,WX,_,_⟩:=id E.ex;refine⟨UE,λs v=>by rw[WX];exact .of_eq ρ,λbase _ _=>?_⟩;have go:=@DI.go l.prog w K mg base h;obtain⟨_,b,c⟩:=go X G VB (Kv T) (by walk_at "bn");have k:fQ K mg "WALLS" (.U [.str "north",.str "east",.str "south",.str "west"]):=⟨.ref j,_,aac X G aW,ρ,λH=>⟨j,[.str "north",.str "east",.str "south",.str "west"],ρ,τ ⟨_,_,_,lW,ρ,ρ,(by show 4<=dk;unfold dk;decide),.cons ⟨_,ρ⟩<|.cons ⟨_,ρ⟩<|.cons ⟨_,ρ⟩<|.cons ⟨_,ρ⟩ .nil⟩,⟨_,_,ρ,ρ,_,_,ρ,ρ,_,_,ρ,ρ,_,_,ρ,ρ,ρ⟩⟩⟩;have gM:fQ K mg "MOST_ROOMS" (.int 8):=⟨.int 8,_,aac X G aM,⟨_,ρ⟩,λH=>rfl⟩;have gL:fQ K mg "LONGEST_NAME" (.int 8):=⟨.int 8,_,aac X G aL,⟨_,ρ⟩,λH=>rfl⟩;have gT:yX K mg "WALLS" GY:=⟨j,_,_,_,aac X G aW,lW,ρ,ρ,ρ,(by show 4<=dk;unfold dk;decide),.cons ⟨_,ρ⟩<|.cons ⟨_,ρ⟩<|.cons ⟨_,ρ⟩<|.cons ⟨_,ρ⟩ .nil⟩;have gF:fQ K mg "FEWEST_NEIGHBOURS" (.int 3):=⟨.int 3,_,aac X G aR,⟨_,ρ⟩,λH=>rfl⟩;have r:=sH X G Z;have i:=sH X G be;have UG:=sH X G UD;have UH:=sH X G UB;have g:=sH X G f;have T2:Jl mg:=⟨r,sH X G UC,i,g⟩;obtain⟨_,VQ,VR⟩:=go X G Vk (Jm T k gL) (by walk_at "bn");obtain⟨_,n,o⟩:=go X G Vj (N1 T k gT) (by walk_at "bn");obtain⟨_,VS,VT⟩:=go X G Vl (MZ T VQ VR) (by walk_at "bn");obtain⟨_,VU,VV⟩:=go X G Vm (Ii T gF i) (by walk_at "bn");obtain⟨_,VW,VX⟩:=go X G Vn (NX T k gM i VS VT VU VV) (by walk_at "bn");obtain⟨_,VY,VZ⟩:=go X G Vo (Mx T) (by walk_at "bn");obtain⟨_,p,q⟩:=go X G Vp (Ko T UG) (by walk_at "bn");obtain⟨_,V0,V1⟩:=go X G Vq (Oo T k n o) (by walk_at "bn");obtain⟨_,V2,V3⟩:=go X G Vr (PQ T p q V0 V1) (by walk_at "bn");obtain⟨_,V4,V5⟩:=go X G Vs (LH T) (by walk_at "bn");obtain⟨_,V6,V7⟩:=go X G Vt (Kg T p q n o V4 V5) (by walk_at "bn");obtain⟨_,V8,V9⟩:=go X G Vu (Tf T r) (by walk_at "bn");obtain⟨_,V',Wa⟩:=go X G Vv (Mh T k V8 V9) (by walk_at "bn");obtain⟨_,Wb,Wc⟩:=go X G Vw (PN T k) (by walk_at "bn");obtain⟨_,F,I⟩:=go X G Vx (Mi T p q) (by walk_at "bn");obtain⟨_,Wd,We⟩:=go X G Vy (QU T k VW VX VY VZ V2 V3 V6 V7 V' Wa F I Wb Wc) (by walk_at "bn");obtain⟨_,Wf,Wg⟩:=go X G Vz (PZ T) (by walk_at "bn");obtain⟨_,Wh,Wi⟩:=go X G VA (LM T UH Wf Wg) (by walk_at "bn");obtain⟨_,Wj,Wk⟩:=go X G VC (SH T b c) (by walk_at "bn");obtain⟨_,Wl,Wm⟩:=go X G VD (Pb T b c) (by walk_at "bn");obtain⟨_,Wn,Wo⟩:=go X G VE (R1 T b c Wj Wk Wl Wm) (by walk_at "bn");obtain⟨_,Wp,Wq⟩:=go X G VF (QQ T) (by walk_at "bn");obtain⟨_,Wr,Ws⟩:=go X G VG (Qe T Wp Wq) (by walk_at "bn");obtain⟨_,Wt,Wu⟩:=go X G VH (Lm T Wr Ws) (by walk_at "bn");obtain⟨_,Wv,Ww⟩:=go X G VI (PM T Wt Wu) (by walk_at "bn");obtain⟨_,Wx,Wy⟩:=go X G VJ (Jt T b c) (by walk_at "bn");obtain⟨_,Wz,WC⟩:=go X G VL (NJ T n o) (by walk_at "bn");obtain⟨_,J⟩:=y.l;have L:=y.ok (P:=l.prog) (w:=w) (base:=base) X G J (Ui T k Wd We F I Wz WC J) (by walk_at "bn");obtain⟨_,WG,WH⟩:=go X G VM (SD T) (by walk_at "bn");obtain⟨_,WI,WJ⟩:=go X G VN (QF T WG WH) (by walk_at "bn");obtain⟨_,WK,WL⟩:=go X G VO (JX T) (by walk_at "bn");obtain⟨_,WM,WN⟩:=go X G VP (LK T WK WL WI WJ) (by walk_at "bn");obtain⟨_,M⟩:=z.l;have WO:=z.ok (P:=l.prog) (w:=w) (base:=base) X G M (SS T (λweb h _=>NR h) WM WN L M) (by walk_at "bn");obtain⟨_,N⟩:=A.l;have WQ:=A.ok (P:=l.prog) (w:=w) (base:=base) X G N (Iu T b c N) (by walk_at "bn");have O:aY l.prog w K mg base "bars" 5 (aI K tO):=by obtain⟨fb,WY,WZ,Fb,mb,kb,bb⟩:=L.is;exact⟨fb,WY,WZ,Fb.imp Gv,mb,kb,bb⟩
 obtain⟨fnL,oL,sL⟩:=IY (P:=l.prog) (w:=w) (base:=base) T Wh Wi Wn Wo Wv Ww Wx Wy b c O WO WQ E;exact oL.imp<|K7 sL
def walk{l:abQ}{q:kH}{c:List e6}{A:(e6->Option cA)->ph->Prop}{j:pe->ph->Prop}{d:DefRec}{K:Params->ft}(B:l.most=al 63)(m:d.params.defaults=[])
 (C:∀(w:pe) (h:ph),j w h->(K w.params).In h)
 (F:∀(w:pe) (mg:e6->Option cA) (fa:dn) (h:ph),(K w.params).In h->h.Ns k7 mg->mg d.name=al (.ref fa) ->
   ∃e:kq,(∀(s:ey) (u:cA),abJ s e ⟨[u],[]⟩ [("_law_script",u)])/\∀base:ph,(K w.params).In base->base.Ns k7 mg->br l.prog w (K w.params) mg base bj 7 fa e ["_law_script"] (wR<|K w.params)) :
  W.WalkO q c A j l.row.toRowW d [] (λf vs=>PySem.call f vs) :=
 by
 intro w s0 s1 mg mb G Y fa o pm cd doc dV kV ho hd hcd p t D args vals as E I hr J hx;cases Dflts.none p m;cases Dflts.noKw p;obtain⟨a,vs,v,rfl,rfl,L,M,x⟩:=Pp B E J;have y:=C w _ Y;obtain⟨e,N,O⟩:=F w mg fa _ y G.T.g t;have P:∀n∈v,kn n:=λn i=>PyData.bits_of_layable<|layableW_item (layW_cons I).1 (.int n) (bg.2 ⟨n,i,ρ⟩);refine enter_call (Zo (N8 y G.T.g G.T.b G.T.builtins G.T.nolimit D L M (ia x ⋯) ⟨ρ,⋯,⋯⟩ O N (λH _ Q=>⟨a,v,ρ,Q,x,P,λ_=>rfl⟩) λ_ _ _ z=>z) λr s' R=>?_);obtain⟨rfl,S,U,V⟩:=R;exact⟨ι ⟨.bool true,.bool true,[],ρ,λ_=>rfl,.bool true,SA l _,λ_=>⟨List.Pairwise.nil,λ_ i=>nomatch i⟩⟩,S,U,V⟩
end
end
end L2
open PySem PySem.W PyProof.Rows
local macro_rules | `(tactic| walk_at "df") => `(tactic| (refine' ⟨_, L2.SI ?l ?c ?k⟩; (case l => k_is); (case c => k_is); (case k => k_is)))
local macro_rules | `(tactic| walk_at "di") => `(tactic| (refine' L2.DI.mk ?a ?b ?c; (case a => k_is); (case b => walk_at "df"); (case c => first | k_is | kit_is)))
namespace PySem.W.Fast
def tw11166169201243002741:=()
def tw2686781275713489627:=()
def tw17491196545489406864:=()
def tw6934482288998250172:=()
def tw16802222611404926607:=()
def tw9019238037168557937:=()
def tw13548354936766527466:=()
def tw12759334743804380867:=()
def tw12257919817083389592:=()
def tw3292229453441357062:=()
def tw11353114494501051665:=()
def tw439342086310845541:=()
def tw112644749243098746:=()
def tw7800039145308481802:=()
def tw16308969697751393529:=()
def tw8782776522351466835:=()
def tw1278840401170879782:=()
def tw3023047385755326445:=()
def tw7428710769502237190:=()
def tw16969809282657884539:=()
def tw21629282109824535:=()
def tw2757135724147774270:=()
def tw15752192437212975770:=()
def tw7057963191915354152:=()
def tw17244360018088097445:=()
def tw5143871307868402164:=()
def tw5293512027338278527:=()
def tw12300297135949169346:=()
def tw13523278904815703630:=()
def tw2014690249826835970:=()
def tw18011897378047364589:=()
def tw12310359764782316396:=()
def tw5281890808252447680:=()
def tw13508885113802948117:=()
def tw15882779716823891456:=()
def tw13416309154819185733:=()
def tw15254188456541257604:=()
def tw2871897771064377081:=()
def tw15087907177490546821:=()
def tw6296880045840964033:=()
def tw14330228899436449865:=()
def tw18246850682869324342:=()
def tw13125928761303749432:=()
def tw16828714979480540541:=()
def tw14154127696651071488:=()
def tw13461917246266996402:=()
def tw16072258937651830723:=()
def tw6819000914328028689:=()
def tw12927786573416661742:=()
def tw8351436433151171552:=()
def tw13921300467592649016:=()
def tw12436919668472773337:=()
def tw5432685055130930601:=()
def tw142454532108079958:=()
def tw8794547053923999153:=()
def tw14534249857101090126:=()
def tw18314244784140427283:=()
def tw9316150469007476946:=()
def tw5711597728853333966:=()
def tw16812547318726245979:=()
def tw12963069278363903790:=()
def tw14340239730359680563:=()
def tw14285239273985621568:=()
def tw10000829247084720682:=()
def tw10035971246524466426:=()
def tw10863245471544980184:=()
def tw3386052081955209823:=()
def tw1557124351208071514:=()
def tw6152163319481829632:=()
def tw16989156391035280207:=()
def tw10578478769310297976:=()
def tw10405382687743845846:=()
def tw16364939521356311785:=()
def tw7611451572763311284:=()
def tw9884364315378836393:=()
def tw14592777377920040123:=()
def tw16739053190080645640:=()
def tw10261245095498127003:=()
def tw4246992563751473795:=()
def tw1167419584106762076:=()
def tw13876193156640358088:=()
def tw13259722236762149914:=()
def tw8014725243435537049:=()
def tw13326946556075224407:=()
def tw9527552859019702177:=()
def tw4845969121328040108:=()
def tw2250185684770669721:=()
def tw15684496392591057238:=()
def tw663477016010184695:=()
def tw4731438616996515728:=()
def tw6923867639988854880:=()
def tw9532191951357427003:=()
def tw17971470901580310159:=()
def tw1567649083566177545:=()
def tw17851129965191071400:=()
def tw12624228067747274430:=()
def tw9465581208651329407:=()
def tw16543125000085705893:=()
def tw5754007579484202570:=()
def tw7163317807657899613:=()
def tw7695170773081566920:=()
def tw1428134919677331273:=()
def tw6718620427548320427:=()
def tw17607988894394046333:=()
def tw14099759119369686126:=()
def tw6785678729158993986:=()
def tw16721469776564516656:=()
def tw17765901644309911838:=()
def tw15885338077995472004:=()
def tw8726034359904369585:=()
def tw14743288558841012071:=()
def tw8104476994215700596:=()
def tw17683926554891693364:=()
def tw15137512723973684808:=()
def tw17594875273352093241:=()
def tw9699563645558256001:=()
def tw1718727101910239192:=()
def tw15871158985119065941:=()
def tw3662414776350186644:=()
def tw6572803709987088546:=()
def tw12952649901337904256:=()
def tw18086095451221995134:=()
def tw11923024135675950558:=()
def tw6278793440616869101:=()
def tw16056395954242123186:=()
def tw10976081424621657642:=()
def tw14707636889398616869:=()
def tw17626078986743087279:=()
def tw11559487661523224452:=()
def tw7256964173672168579:=()
def tw11495919764720353493:=()
def tw6272300490567429838:=()
def tw12336077076636613453:=()
def tw3010508665323960749:=()
def tw7687346506884763421:=()
def tw10703623832383832092:=()
def tw7132530960472985891:=()
def tw14200256068692966876:=()
def tw4810409371124955023:=()
def tw928235613333883034:=()
def tw13063366690831047022:=()
def tw2153955829548214751:=()
def tw9863297285736595873:=()
def tw16448469026160281738:=()
def tw12237806032452005398:=()
def tw3611599607897538036:=()
def tw11251802072452682904:=()
def tw9635248268492868704:=()
def tw11814540427060884708:=()
def tw11466581938092436292:=()
def tw8517581225554803893:=()
def tw2305263626054701387:=()
def tw97191032530908913:=()
def tw4573116745199379025:=()
def tw7822164475168067179:=()
def tw7568274201325780706:=()
def tw4745380645159096785:=()
def tw1378934071492948687:=()
def tw16663139591603831522:=()
def tw10847884909513462182:=()
def tw1256712344203176113:=()
def tw3883839871254499922:=()
def tw7669308989803514222:=()
def tw2832892514000643183:=()
def tw467313543257139157:=()
def tw11655717594360055008:=()
def tw5603700044556529829:=()
def tw15917452072154664492:=()
def tw13638011542657223991:=()
def tw12138369283068630985:=()
def tw4488671536158781997:=()
def tw13326341564841606592:=()
def tw8221621294324276999:=()
def tw9161208236376211736:=()
def tw5320200705724788149:=()
def tw4723156559338753101:=()
def tw4984906184304284021:=()
def tw3562929549776066879:=()
def tw17312821395250208264:=()
def tw8770371601664116670:=()
def tw1125506780807149051:=()
def tw17570557520883233200:=()
def tw16868858002892938267:=()
def tw8986785765498775541:=()
def tw4933216815004441391:=()
def tw2959074340342249341:=()
def tw10363289319534024041:=()
def tw7505932090259071715:=()
def tw15214360096291250023:=()
def tw15974417214476362448:=()
def tw6066540507492162225:=()
def tw2789064871225771008:=()
def tw363935086676686819:=()
def tw6633134515989997526:=()
def tw10605936814665613089:=()
def tw16870344357421152733:=()
def tw15335859903971655783:=()
def tw12711300042891034926:=()
def tw9654738462642299344:=()
def tw13326222089900203521:=()
def tw6481297777291978669:=()
def tw12198446996365162971:=()
def tw2283801176337346169:=()
def tw10064717703363505442:=()
def tw12922659041030523128:=()
def tw6568112445513153042:=()
def tw18402137906042993185:=()
def tw1709760223212670258:=()
def tw1997472929772039153:=()
def tw9863259458289302446:=()
def tw12463571748209800500:=()
def tw11214406819055812659:=()
def tw3364919691043322119:=()
def tw8754310525426439515:=()
def tw18412227063829063648:=()
def tw390278720128689093:=()
def tw11663578230813462200:=()
def tw15130685051601588566:=()
def tw11199350842383076151:=()
def tw7242544364764945213:=()
def tw6471949060158668014:=()
def tw6940998114095530833:=()
def tw11858382811910543572:=()
def tw2518087502411283979:=()
def tw15564008668768604480:=()
def tw13372954678166618035:=()
def tw2076995859049118113:=()
def tw7352033726830204922:=()
def tw3456116936190832504:=()
def tw16578545236762825829:=()
def tw11988539658959772456:=()
def tw9878675011796005621:=()
def tw10336921262030246199:=()
def tw8929293131529004517:=()
def tw15455416771868882167:=()
def tw5879832932640968951:=()
def tw607465115524817854:=()
def tw1108776983844434240:=()
def tw13205703549311559577:=()
def tw13995560290168156334:=()
def tw14763555417848763266:=()
def tw4251970243619889985:=()
def tw4098593981856149430:=()
def tw12962946837891594999:=()
def tw15218715397139144502:=()
def tw8900627266127189487:=()
def tw8351744094218801858:=()
def tw12800684304137070394:=()
def tw9960874016448866003:=()
def tw15250655389305973325:=()
def tw223460312334656859:=()
def tw14776490971902926571:=()
def tw3278409062600339:=()
def tw14961817235509132007:=()
def tw3254948689039978003:=()
end PySem.W.Fast
set_option maxRecDepth 100000 in
set_option maxHeartbeats 0 in
theorem PySem.Challenge.cw_roomtouch_k03_threes_that_bar_holds : PySem.Challenge.rw_roomtouch_k03_threes_that_bar.Holds := by
  w_on; o_law; k_head; (case hw => w_witness2)
  k_fill
  refine L2.walk (l := PySem.Challenge.rw_roomtouch_k03_threes_that_bar) rfl rfl (fun w h Y => W.kIn_of Y) ?F
  case F =>
    intro w mg fa h b G a
    refine' L2.all_mk b G a ?_ ?_ ?_ ?_ ?_ ?_ ?_ ?_ ?_ ?_ ?_ ?_ ?_ ?_ ?_ ?_ ?_ ?_ ?_ ?_ ?_ ?_ ?_ ?_ ?_ ?_ ?_ ?_ ?_ ?_ ?_ ?_ ?_ ?_ ?_ ?_ ?_ ?_ ?_ ?_ ?_ ?_ ?_ ?_ ?_ ?_ ?_ ?_ ?_ ?_ ?_ ?_ ?_ ?_ ?_ ?_ ?_ ?_ ?_ ?_
    all_goals try first | k_is | kit_is | k_exc | kts_exm | walk_at "df" | walk_at "di"
