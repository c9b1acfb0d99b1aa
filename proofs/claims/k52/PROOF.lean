import PyProof.Rows.All
import Wide.All
import OpenK.AllK
import PySem.Challenge.RW_roomtouch_k52_read
set_option Elab.async false
set_option linter.all false
set_option compiler.extract_closed false
set_option genSizeOf false
set_option maxRecDepth 100000
set_option maxHeartbeats 4000000
local macro_rules | `(⋯)=>`(by first|decide|simp|omega|lia)
local macro_rules | `(∅)=>`(by first|omega|(unfold PySem.sizeLine;first|omega|decide))
local macro_rules (kind:=«term{_}») | `({$l,*})=>`(⟨$l,*⟩)
open Lean Parser in
def Mp(l:Array Syntax):Syntax:=.node .none ``Tactic.rcasesPatLo #[.node .none ``Tactic.rcasesPatMed #[.node .none `null l],.node .none `null #[]]
open Lean Parser Tactic in
def Mo(n:Nat)(s:Syntax):Syntax:=match n with
 |0=>s
 |n+1=>match s.getKind with
  |``Term.hole=>.node .none ``rcasesPat.ignore #[s[0]]
  |``Term.tuple=>.node .none ``rcasesPat.tuple #[.atom .none "⟨",.node .none `null ((#[s[1][0],s[1][1]]++s[1][2].getArgs).map λx=>if x.isAtom then x else Mp #[Mo n x]),.atom .none "⟩"]
  |`«term_||_»=>let p:=Mo n s[0];.node .none ``rcasesPat.paren #[.atom .none "(",Mp<|(if s[0].isOfKind `«term_||_» then p[1][0][0].getArgs else #[p])++#[.atom .none "|",Mo n s[2]],.atom .none ")"]
  |``Term.paren=>Mo n s[1]
  |_=>.node .none ``rcasesPat.one #[s]
local macro_rules | `(tactic| let $p:term:=$e:term)=>`(tactic| obtain $(⟨Mo 99 p⟩):rcasesPat:=$e)
open Lean Parser in
def Hh:Nat->Syntax->Bool
 |n+1,.node _ k a=>k==``Term.syntheticHole||k !=``Term.byTactic&&a.any (Hh n)
 |_,_=>false
open Lean Parser Tactic in
def Mx:Nat->Syntax->Syntax
 |n+1,.node i k a=>
  let a:=a.map (Mx n);let N:=Syntax.node .none;let L:=N `null;let O:=L #[];let w:=.atom .none "";let e:=a.getD 1 w;let A:=λk l=>N k (#[w]++l);let R:=λi p e=>A ``tacticLet__ #[N ``Term.letConfig i,N ``Term.letDecl #[N ``Term.letPatDecl #[p,O,O,w,e]]];let q:=k==`tactic.pseudo.antiquot
  if q||k==``tacticSeq++`antiquot then
   let t:=a[2]!;let p:=t.isOfKind `antiquotNestedExpr;let t:=if p then t[1] else t
   let t:=match e.getNumArgs with
   |0=>if t.isAtom then A ``omega #[N ``optConfig #[O]] else if t.isOfKind `str then A `PyProof.Rows.tacticWalk_at_ #[t] else A (if Hh n t then ``refine else ``exact) #[t]
   |1=>if p then A ``unfold #[L #[t],O] else A ``subst #[L #[t]]
   |2=>if p then A ``refine' #[t] else A ``cases #[L #[N ``elimTarget #[O,t]],O,O]
   |3=>A ``simpa #[O,O,N ``simpaArgsRest #[N ``optConfig #[O],O,O,O,L #[w,t]]]
   |4=>A ``split #[O,L #[A ``location #[N ``locationHyp #[L #[t],O]]]]
   |_=>R #[O] (mkIdent `rfl) (N ``Term.app #[mkIdent `sO,L #[t]])
   if q then t else N ``tacticSeq #[N ``tacticSeq1Indented #[L #[t]]]
  else if k==choiceKind&&a.back!.isOfKind ``tacticSeq then a.back!
  else if k==``tacticLet__ then
   let d:=a[2]![0];if d.isOfKind ``Term.letIdDecl then (if d[0][0].getId==`rfl then R e.getArgs d[0][0] d[4] else A ``tacticHave__ #[e,a[2]!]) else .node i k a
  else if k==``Elab.Tactic.Ext.ext then
   let b:=e[0];if b.isOfKind ``rintroPat.binder then A `«tacticBy_cases_:_» #[L #[b[1][0][0][0],w],b[2][1]] else A ``rintro #[e,O]
  else if k==``Elab.Tactic.Ext.tacticExt1___ then A ``renameI #[L<|e.getArgs.map λp=>N ``binderIdent #[p[0][0]]]
  else if k==``simpAutoUnfold then .node i ``simpAll a.pop
  else if k==``simpTrace then let r:=a[2]!;A ``simp #[r[0],r[1],L #[w],L r[3][0].getArgs,r[4]]
  else if k==``dsimp then .node i k (a.set! 3 (L #[w]))
  else if k==`PySem.W.tacticLk then A ``contradiction #[]
  else .node i k a
 |_,s=>s
open Lean Parser Command in
def Md(s:Syntax):MacroM Syntax:=match s with
 |.node .none k a=>
  if a[0]![6].getNumArgs>0||(`PySem).isPrefixOf a[1]![1][0].getId then Macro.throwUnsupported else
  let a:=a.map (Mx 999);return .node (.synthetic 0 0) k<|if [``definition,``«abbrev»,``«instance»].contains a[1]!.getKind then a.modify 0 λm=>m.setArg 4 (.node .none `null #[.node .none ``«noncomputable» #[.atom .none ""]]) else a
 |_=>Macro.throwUnsupported
open Decidable renaming decide->am
open List renaming mem_map->a5,length_map->a8,getElem?_eq_some_iff->bg,getElem?_eq_getElem->b8,mem_cons->dV,getElem?_map->ee,mem_append->el,mem_cons_of_mem->eH,mem_of_getElem?->eK,mem_cons_self->eR,not_mem_nil->eT,length_append->fk,map_map->fm,length_cons->fq,map_append->ft,size_toArray->fv,map_cons->fR,length_take->f',mem_filter->gg,mergeSort_perm->gj,getElem?_set_ne->g0,pairwise_map->hF,getElem?_append_left->hH,nodup_append->hM,getElem?_append_right->hO,getElem?_set_self->hY,countP_cons->ia,all_eq_true->ib,length_pos_iff->ir,nodup_cons->iN,length_drop->iW,mem_singleton->ka,getD_eq_getElem?_getD->kq,length_set->kx,range->lb,any_eq_true->ll,perm_ext_iff_of_nodup->mm,countP_append->mo,mem_append_right->mA,findIdx?_eq_some_iff_getElem->nk,pairwise_iff_getElem->nr,countP_map->nA,replicate->nB,append_assoc->nE,getElem_of_mem->nS,filter_sublist->n5,countP_eq_length_filter->ph,countP_congr->pB,sum_cons->pR,take_length->ri,map_eq_nil_iff->sq,map_congr_left->sH,take_append_drop->tz,map_mergeSort->tR,pairwise_mergeSort->uz,countP_eq_zero->vj,map_id'->y0,map_drop->zc,append_nil->z6,map_take->z8,nodup_nil->D0,lookup_cons->Ex,getElem_mem->G',getElem_inj->He,pairwise_cons->P',length_nil->T',any_cons->W0,length_range->aab,not_lt->aag,mem_range->aah,getElem?_zip_eq_some->aam,findIdx?_eq_none_iff->aan,length_eq_zero_iff->aaq,getElem?_replicate->aar,take_of_length_le->aaw,map_nil->aax,perm_append_comm->aaD,cons_lt_cons_iff->aaE,getElem_map->aaH,all_cons->aaN,mem_of_mem_drop->aaO,mem_append_left->aaP,foldl_cons->aaS,filter_eq_self->aaU,mem_filterMap->aa2,getElem?_take->aa3,exists_cons_of_ne_nil->aa4,mem_of_find?_eq_some->abc,le_antisymm->abi,filter_cons->abj,toArray->abr,filter_eq_nil_iff->abt,sum_append->abz,of_mem_zip->abA,find?_cons->abB,mem_iff_getElem?->abF,length_singleton->abG,length_filter_le->abH,countP_le_length->abI,pairwise_append->abO,getElem?_range->abX,filterMap_cons->abY,zip_cons_cons->ab5,getElem?_drop->ab6,findIdx?_cons->ab7,find?_eq_none->ab8,sum_nil->aci,filter_congr->acj,any_eq_false->ack,map_snd_zip->acz,forIn_cons->acJ,find?_some->acK,take_succ->ac0,perm_append_singleton->ac1,mergeSort_of_pairwise->ac2,lt_irrefl->ac3,length_eraseIdx_of_lt->ac4,exists_mem_of_ne_nil->ac8,drop_eq_getElem_cons->ac9,getElem?_take_of_lt->adh,eq_of_mem_replicate->adi,pairwise_singleton->ado,getElem?_cons_succ->adp,range_succ_eq_map->adv,length_pos_of_mem->adw,append_eq_nil_iff->adx,any_map->ady,countP_singleton->adK,mem_of_mem_take->adQ,countP->adR,replicate_succ->ad3,flatMap_append->ad4,count_pos_iff->aea,append_of_mem->aeb,take_sublist->aev,foldl_append->aew,flatMap_cons->aex,range'_succ->aeC,mem_flatMap->aeD,flatMap_def->aeE,ext_getElem->aeF,drop_length->aeG,range_succ->aeR,length_zip->aeS,filter_map->aeT,take_zero->ae0,take_nil->afb,lt_trans->afc,drop_nil->afd,all_nil->afs,all_map->aft
open PySem renaming sizeLine->a9,Value->bt,wpAny_bind->cn,Addr->cA,Shared->dq,Str->ew,wpAny_pure->fj,Expr->fA,FuncData->gi,wpAny->gW,Program->hE,mainGlobals->hI,model->hJ,strLen_append->hS,World->iR,compareOp->j',Heap->k7,starEach->ma,Around->nL,assignEach->pl,foldedSetIterable->pw,wpAny_holding->pA,Pos->q7,cLine->r0,behindInMarks->tm,Obj->ua,wpAny_call_entry->ub,swapsWith->um,sizeLine_eq->vi,wpAny_pyIter_list->xr,wpAny_newObj_type->yv,wpAny_mono->za,Stmt->zR,attributeBase->z3,wpAny_truthy_bool->z9,bootBuiltins->C',sysModules->Hz,call_meets->HT,binaryOp->Q2,Scope->Rr,wpAny_typeNameOfWhole_keyiter->XP,backTo->YP,wpAny_passesOwn->aae,mem_of_lookup->aak,Paired->aao,holding->aap,wpAny_typeNameOf_keyiter->aav,assign->aay,wpAny_callSpecial?_slot->aaC,DictEntry->aaT,ExceptHandler->aaY,Builtin->aaZ,sliceBounds->aa0,wpAny_execs_nil->aa6,codeAny_builtin->aa7,tupleKind_room_in1->abg,wpAny_dictEntries->abn,codeAny->abo,swapsWithSole->abu,swappedStores->abv,wpAny_eqBool_str->abJ,lastMarks->abK,boot_len->abL,typeIs_str->abP,pyNext->abQ,codeAny_mono->abR,shortFactorBits->abU,letOwnedTupleGo->abV,NameKind->ab',getItem->acd,argBest->ace,PassesOwn->acf,length_partsBetween->acn,wpAny_standAt->acv,wpAny_Call_Name_kw->acA,IsPart->acD,relabel->acN,callerA->acO,tupleKind->ac5,subscripted->ada,slicePicked->adb,wpAny_dictEpoch->adj,standAt->ads,Keyword->adt,BindsTo->adu,typeLookup->adz,GenState->adC,CmpOp->adH,wpAny_newList->adT,wpAny_comprehension_free->adU,plainId_quiet->adV,bindL->ad6,bindC->ad7,wpAny_typeOf->aed,valueAt->aee,setItem->aef,seqIndex_neg->aeg,rawInt->aeh,merged->aei,isTrue->aej,concat_meets->aek,Result->aen,wpAny_notOrdered_dict->aez,wpAny_isOneOf_keyiter->aeA,wpAny_pyIter_keyiter->aeI,wpAny_field->aeJ,seqIndex_of->aeK,keywordEach->aeL,intText?->aeM,atKey->aeN,wpAny_Name->ae3,typeIs_int->ae4,pyIter->ae5,getattributeRaised->ae6,builtinsNs->ae7,wpAny_pyIter_enum->afi,wpAny_assign_Name->afj,slot_list_getitem->afk,wpAny_pyIter_zip->afu,wpAny_execs_cons->afv,wpAny_eqBool_int->afw,scanBound->afx,noFill_tuple_add->afz,cellsFrom->afA,wpAny_setField->af3,wpAny_fieldsOf->af4,bindArgs->af6,backToKw->af7,wpAny_attempt->agf,seq_tuple_add->agg,evalPart_none->agh,call_list_seq->agi
open PySem.Str renaming ofString->cm,empty->ow,join->wm,cps_append->zd
open Bool renaming true->bd,false->bi,and_eq_true->ec,and_eq_true_iff->hG,not_eq_true'->l4,eq_iff_iff->qh,false_eq_true->qp,not_eq_true->aaI,not_eq_false'->aa5,and_true->ab0,and_comm->ab1,and_eq_false_iff->adN,false_ne_true->aec,or_eq_true->aeU,false_and->ae2,false_or->aff,and_self->afg
open PySem.Heap renaming get?_push_of_some->eJ,lt_size->e7,get?_push_size->g8,get?_update_other->P2,SameBut->aaX,size_push->aa1,size_update->acx,get?_update_self->adB,get?_push_ne->aeq
open Nat renaming le_refl->eS,ne_of_lt->gk,lt_of_lt_of_le->hQ,mod_eq_of_lt->lr,le_trans->m3,lt_irrefl->p5,zero_le->rp,mod_self->z7,zero_add->aal,lt_trans->aaA,lt_succ_of_lt->aaB,mul_le_mul_right->aaQ,lt_of_le_of_lt->aa',le_succ->abf,lt_succ_self->abk,le_add_right->abl,ne_of_gt->aby,mod_lt->aca,succ_mul->acs,le_of_lt->acu,isDigit_of_mem_toDigits->acZ,pow_lt_pow_right->ad1,log2_lt->ad2,not_lt_zero->aeY,min_eq_left->aeZ,mul_le_mul->afa,toDigits->afI,sub_self->afJ,le_of_eq->afK,add_comm->afL,add_mod->af1
open PySem.W renaming Frag->e6,mg_none_of->m5,nsIn->z5,kia_one->abw,mg_of->abM,KatTups->ab2,keepIn->acB,OpenLaw->acG,kas_rev->acP,fnOf->adk,methodObj->ael,cellsFrom_some->ae8,kas_sort->afB,codeIn->afC
open Option renaming some->ac,none->al,map_eq_some_iff->gs,bind_some->gD,map_some->sj,isSome_iff_exists->abb,isSome_map->ab4,getD_some->ach,getD_none->ad'
open PySem.Txt renaming join->kH,slice->acC
open PySem.SeqAt renaming canLay_of_shaped->k5,readOf->aaj,shaped->adl,readsAll_map->adX,items_eqAt->aem
open List.Pairwise renaming sublist->k9,imp_of_mem->aac,nil->abC
open Array renaming getElem?_toList->lp,getElem?_eq_getElem->nq,getD_eq_getD_getElem?->pq,all_eq_true'->qo,mem_toList_iff->qt,toList_append->r3,length_toList->sb,perm_iff_toList_perm->acU,getElem?_eq_none->adq,append_assoc->ad5,toList_inj->aey,toList->afh,ext'->afN
open PySem.Builtin.Str renaming occurrences->lq,partsBetween->acq,strKind->acY
open PySem.PyData renaming strOk->o3,eqv->qe,canLay0->aad,canLayAll0->aat,depthAll->acw,eqvAll->aeO
open PySem.Builtin.Int renaming intBits->pe,intTooBig->acH
open Sum renaming inr->px,inl->acm
open PySem.F renaming plainAttrs_list->ql,slot_dict_keyiterator_next->wt,called_set->zb,slot_str_split->abd,slot_list_clear->abx,args_str_split_2->aco,entry_str_split->acE,args_tuple_add_2->acR,args_dict_keyiterator_next_1->acS,type_list_clear->acV,entry_tuple_add->acW,entry_dict_keyiterator_next->acX,slot_tuple_add->ac6,plainAttrs_str->ac7,slot_tuple_index->adD,slot_list_insert->adE,slot_list_getattribute->adF,slot_list_append->adG,slot_list_index->adO,slot_list_count->adP,slot_list_pop->ad9,slot_dict_iter->ae9,slot_int_rmul->afp,slot_dict_len->afq
open Int renaming toNat_of_nonneg->ti,emod_lt_of_pos->aas,emod_nonneg->aaV,neg_lt_neg_iff->aba,eq_ofNat_of_zero_le->abm,sub_zero->abD,not_lt->abE,neg_inj->acL,mul_le_mul_of_nonneg_left->acM,mul_lt_mul_of_pos_left->ac',lt_trans->adL,toNat_natCast->aeH,le_antisymm->ae1,mul_nonneg->afe,ne_of_lt->afM
open PySem.Value renaming bool->uy,ref->DU,str->aai,int->abh,type->adW,isStrOf->aeX,isInt->afl
open PyProof.Rows renaming envOfC->HU,callWith_type1->H9,slot_tuple_getitem->I1,seqObj->aaz,room_in_shaped->aaL,IsTup->aaM,kindOf->aa9,StrsAre->abq,AllBare->abT,digit_range->acg,slot_str_getitem->adg,entry_list_sort->adn,slot_list_sort->adI,args_list_sort->adJ,subscriptTail->adZ,strKind_oneLt->ad0,subscriptTail_builtinR->aer,keyKind_strs->aes,IntsAre->aeu,arrOf->aeQ,Subscript_->ae',slice_closes_to_neg->afV,part_short->afW,list_sort_treeK->afX,joinParts_consE->afY,get?_update_seq->afZ,callWith_builtin1->af0,sortedHeap_old->aga,slicePart_none->agb,joinParts_cons->agd,sortedHeap_at->agm,listUpdate_at->agn
open False renaming elim->KX
open PySem.Builtin.Slice renaming slicePlaces->Sq,sliceAdjust->aaK,sliceApplied->abZ,slicePartIndex->afF,sliceFields->afG
open PyProof.Rows.F renaming plain_set_update_loop->Ts,entry_set_update_loop->abe
open PySem.Builtin.Tuple renaming tupleExact->aaa,tupleItemsOf->afE
open PySem.NumText renaming AllDigits->aaf,digitsVal->afD
open Classical renaming choose_spec->aau,byContradiction->aaW,choose->adM
open True renaming intro->aaF
open PySem.Around renaming under_plainId->aaG
open PySem.Obj renaming mapSeq->aaJ,data_mapFields->aeo,mapFields->afn
open Option.some renaming injEq->aaR
open PySem.Calls renaming call_function_entry->aa8,Name_function_global->acT,callWith_builtin->adm,Constant_str->adY
open PySem.Builtin.Dict_items renaming ownsTuple->abp
open Prod.mk renaming injEq->abN
open PySem.StrLaws renaming join_split->abS,occ_length_le->ade,glued_eq_join->adf
open Or renaming inl->abW,inr->acI
open PySem.Builtin.List renaming listFitsIndex->ab3,listTooLong->afQ
open PySem.PassesOwn renaming never->ab9
open List.cons renaming injEq->acb
open PySem.Builtin.Dict renaming updateFrom->acr,pairItems->acy,showsAll->acF,selfAndRest->afR,pendingCount->afS,dictSlotNone->afT,addKeywords->afU
open PySem.Heap.SameBut renaming update->acQ
open PySem.Spec renaming same->adA
open ForInStep renaming yield->adS
open PySem.W.Looks renaming of_pure->ad8
open PySem.NameKind renaming cell->aep
open PyProof.Rows.IsTup renaming new->aet
open PySem.W.KIN renaming signs_num->aeB
open PySem.Builtin.Frozenset renaming updateFrom->aeP
open Std.Legacy.Range renaming size->aeV,forIn_eq_forIn_range'->aeW
open PySem.Heap.IsSliceOf renaming new->afo
open PyProof.Rows.SortSt renaming mk'->afr
open PySem.Builtin.Range renaming rangeSize->afH
open PySem.W.WData renaming int->afO
open PySem.SeqAt.RcNeAt renaming lists_lengths->afP
open Char renaming toNat->af2
open PySem.Heap.DictOf renaming new->af'
open PySem.SeqAt.RcAt renaming lists_lengths->agj
open PySem.SeqAt.EqAt renaming str_int->agk,int_str->agl
open Prod renaming snd->ago
open List.Nodup renaming length_le_of_subset->agp
open And renaming intro->agq
open PySem PySem.Spec PyProof.Rows
noncomputable section
local macro_rules (kind:=Lean.Parser.Command.declaration) |s=>Md s
theorem ι{a b:Prop}(h:a):a\/b:=.inl h
theorem τ{a b:Prop}(h:b):a\/b:=.inr h
theorem ρ{a:Sort u}{b:a}:b=b:=rfl
namespace L2
def nO (h:al=ac a):P:=by$$$h
def sO (h:ac a=ac c):a=c:=by$$$h;rfl
def sP (h:ac (a,b)=ac (c,d)):a=c/\b=d:=by$$$h;$(⟨ρ,ρ⟩)
inductive OB {α β γ:Type}(o:Option (α×β)) (g:α×β->Option γ) (r:γ):Prop
 |mk (a:α) (b:β) (e:o=ac (a,b)) (h:g (a,b)=ac r)
inductive OA {α γ:Type}(o:Option α) (g:α->Option γ) (r:γ):Prop
 |mk (a:α) (e:o=ac a) (h:g a=ac r)
theorem oB (h:o.bind g=ac r):OB o g r:=by
 cases o with
 |none=>$$$h
 |some p=>$(⟨p.1,p.2,ρ,h⟩)
theorem oA (h:o.bind g=ac r):OA o g r:=by
 cases o with
 |none=>$$$h
 |some p=>$(⟨p,ρ,h⟩)
theorem oM (h:o.map g=ac r):OA o (λx=>ac<|g x) r:=by
 cases o with
 |none=>$$$h
 |some p=>$(⟨p,ρ,h⟩)
theorem oN (h:o.map g=ac r):OB o (λx=>ac<|g x) r:=by
 cases o with
 |none=>$$$h
 |some p=>$(⟨p.1,p.2,ρ,h⟩)
abbrev Key:=Sum Int ew
def jM:Key->bt->Bool
 |.inl k,v=>afl k v
 |.inr x,v=>aeX x v
def IE(w:iR):Key->Int
 |.inl k=>hashInt k
 |.inr x=>hashStr w x
theorem ju:∀{k:Key}{v:bt},jM k v=bd->(∃i t,k=acm i/\v=abh i t)\/(∃x t,k=px x/\v=aai x t)
 |.inl i,v,h=>by let(t,e):=Value.isInt_shape h;$(ι ⟨i,t,ρ,e⟩)
 |.inr x,v,h=>by let(t,e):=Value.isStrOf_shape h;$(τ ⟨x,t,ρ,e⟩)
def QU(i)(t):jM (.inl i) (.int i t)=bd:=by simp[jM,afl]
def Dm(x)(t):jM (.inr x) (.str x t)=bd:=by simp[jM,aeX]
def Ms(a b):am ((acm a:Key)=acm b)=(a==b):=by grind
def Mp(a b):am ((px a:Key)=px b)=am (a=b):=⋯
def OQ(a)(b):am ((acm a:Key)=px b)=bi:=decide_eq_false<|λq=>nomatch q
def Ss(a)(b):am ((px a:Key)=acm b)=bi:=decide_eq_false<|λq=>nomatch q
def cU(prog)(w):PySem.KeyKind prog w Key where
 is:=jM
 hash:=IE w
 inj:=λv a b f d=>by
  let(i,t,rfl,rfl)||(x,t,rfl,rfl):=ju f
  .let (j,u,rfl,e)||(y,u,rfl,e):=ju d;simp!;simp!
  let(j,u,rfl,e)||(y,u,rfl,e):=ju d;simp!;simp!
 byValue:=λk v h=>by let(i,t,rfl,rfl)||(x,t,rfl,rfl):=ju h<;>rfl
 pyHash:=λc h=>by
  let(i,t,rfl,rfl)||(x,t,rfl,rfl):=ju c
  .$(wpAny_pyHash_int h)
  $(wpAny_pyHash_str h)
 eqBool:=λg c h=>by
  let(i,t,rfl,rfl)||(x,t,rfl,rfl):=ju g
  .let (j,u,rfl,rfl)||(y,u,rfl,rfl):=ju c
   .rw[Ms]at h;$(afw h)
   rw[OQ]at h;$(agl i t y u _ _ _ _ h)
  let(j,u,rfl,rfl)||(y,u,rfl,rfl):=ju c
  .rw[Ss]at h;$(agk x t j u _ _ _ _ h)
  rw[Mp]at h;$(abJ h)
 «strs»:=λk x t v h=>by let(i,u,rfl,e)||(y,u,rfl,e):=ju h;simp!;injection e with l _;$$l;$$$v<;>rfl
inductive V where
 |aP|bl (b:Bool)|int (i:Int)|str (x:ew)|rJ (b:Array UInt8)|Bk (b:UInt64)|ref (a:cA)|ty (n:String)
 deriving DecidableEq
def RelV:V->bt->Prop
 |.aP,u=>u=Value.none
 |.bl b,u=>u=uy b
 |.int i,u=>∃t,u=abh i t
 |.str x,u=>∃t,u=aai x t
 |.rJ b,u=>∃t,u=Value.bytes b t
 |.Bk b,u=>∃t,u=Value.float b t
 |.ref a,u=>u=DU a
 |.ty n,u=>u=adW n
abbrev aH:List V->List bt->Prop:=aao RelV
def aH.length (r:aH xs a):xs.length=a.length:=Paired.length r
theorem aH.get{xs:List V}{a:List bt}{i:Nat}{x:V}(h:aH xs a)(e:xs[i]?=ac x):∃u,a[i]?=ac u/\RelV x u:=by
 induction h generalizing i with
 |nil=>simp at e
 |cons r _ b =>
  cases i with
  |zero=>simp at e;$$e;$({_,ρ,r})
  |succ i=>$(b (i:=i) (by$$$$e))
theorem aH.set (r:RelV x u):∀{xs:List V}{a:List bt}(i:Nat),aH xs a->aH (xs.set i x) (a.set i u)
 |_,_,_,.nil=>.nil
 |_,_,0,.cons _ t=>.cons r t
 |_,_,i+1,.cons q t=>.cons q<|aH.set r i t
theorem aH.append (h:aH xs a)(s:aH ys b):aH (xs++ys) (a++b):=by
 induction h with
 |nil=>$s
 |cons r _ c=>$(.cons r c)
theorem aH.take:∀{xs:List V}{a:List bt}(n:Nat),aH xs a->aH (xs.take n) (a.take n)
 |_,_,0,_=>.nil
 |_,_,_+1,.nil=>.nil
 |_,_,n+1,.cons r t=>.cons r<|aH.take n t
theorem aH.drop:∀{xs:List V}{a:List bt}(n:Nat),aH xs a->aH (xs.drop n) (a.drop n)
 |_,_,0,r=>r
 |_,_,_+1,.nil=>.nil
 |_,_,n+1,.cons _ t=>aH.drop n t
def j8:Option V->Option bt->Prop
 |some v,ac u=>RelV v u
 |none,al=>True
 |_,_=>False
def KV:List (a×V)->List (a×bt)->Prop:=aao λ(p:a×V) (q:a×bt)=>p.1=q.1/\RelV p.2 q.2
def kV:Key->V
 |.inl i=>.int i
 |.inr x=>.str x
inductive HO where
 /-- a list -/
 |L (xs:List V)
 /-- a tuple (never changes) -/
 |U (xs:List V)
 /-- a dict whose keys are ints and texts;one whose keys are tuples of ints and texts (the empty one is both) -/
 |dK (kvs:List (Key×V))|dT (kvs:List (List Key×V))
 /-- a set of ints: its members,its size -/
 |set (S:Int->Bool) (n:Nat)
 /-- an instance of the class at C,its dict at dx,its attributes -/
 |ins (C dx:cA) (fs:List (ew×V))
 /-- the dict of the instance at x -/
 |O (x:cA)
 /-- the dict of an exception -/
 |xd (fs:List (ew×V))
 /-- a bound method,f of x -/
 |met (f x:cA)
 /-- a range object lo,lo+1,.. below hi -/
 |qH (lo hi:Int)
 /-- a thing that is known to the object (the script;a dict while a loop walks it): read,never written while it is so -/
 |aZ (o:ua) (u:HO)
 /-- a code object's table -/
 |kZ (ps:Array bt)
 /-- any other thing,by what is true of its one object (a def of one's own: SetO a S n:=HO.ext fun h=>..) -/
 |ext (φ:k7->Prop)
abbrev Hp:=cA->Option HO
def upd(H:Hp)(a:cA)(o:HO):Hp:=λb=>if b=a then ac o else H b
def bw:upd H a o a=ac o:=by$$(upd);rw[if_pos ρ]
def aA (h:b≠a):upd H a o b=H b:=by simp![upd]
def Qe:upd (upd H a o) a u=upd H a u:=by funext b;simp![upd]
def V2{H:Hp}{a b:cA}{o u:HO}(h:H a=ac o)(h':H b=ac u)(d:o≠u):a≠b:=by grind
def df{H:Hp}{a b:cA}{o:HO}(h:H a=ac o)(h':H b=al):a≠b:=by lia
section
variable(P:hE)(w:iR)
def cN(H:Hp)(h:k7)(a:cA):HO->Prop
 | .L xs=>xs.length<=a9/\∃(its:List bt) (n:Nat),aH xs its/\h.get? a=ac {cls:=.type "list",data:=.seq its.toArray n}
 |.U xs=>xs.length<=a9/\∃its:List bt,aH xs its/\aaM h a its.toArray
 |.dK kvs=>kvs.length<=a9/\(a==Hz)=bi/\∃vs,KV kvs vs/\h.DictOf (cU P w) a vs
 | .dT kvs=>kvs.length<=a9/\(a==Hz)=bi/\∃xs:List (List Key×cA×bt),
   aao (λ(p:List Key×V) (q:List Key×cA×bt)=>p.1=q.1/\H q.2.1=ac (.U<|p.1.map kV)/\RelV p.2 q.2.2) kvs xs /\
   ∃o e ep,h.get? a=ac o/\o.ExactDict/\o.data=.dict e ep/\e.toList=xs.map (entryOfKey<|ac5<|cU P w)/\(xs.map (·.1)).Nodup
 |.set S n=>h.SetOf (intKind P w) a S n
 | .ins C c fs=>H c=ac (.O a)/\fs.length<=1000/\c≠a/\h.get? a=ac (W.instObj C c) /\
   ∃b,h.Ns1 c b/\(∀f,j8 (fs.lookup f)<|b f)/\PySem.Within b (fs.map (·.1))
 |.O _=>∃o,h.get? a=ac o
 |.xd fs=>∃b,h.Ns1 a b/\∀f,j8 (fs.lookup f) (b f)
 | .qH lo hi=>∃t u v,h.get? a=ac {cls:=.type "range",data:=.fields #[.int lo t,.int hi u,.int 1 v]}
 |.aZ o u=>h.get? a=ac o/\cN H h a u
 |.kZ ps=>h.get? a=ac {cls:=.none,data:=.fields ps}
 |.met f x=>h.get? a=ac (ael (.ref f)<|.ref x)
 |.ext d=>d h/\(∃o,h.get? a=ac o)/\∀g i:k7,d g->(∀o,g.get? a=ac o->i.get? a=ac o)->d i
def ck(H:Hp)(h:k7):Prop:=∀a o,H a=ac o->cN P w H h a o
end
section
variable{P:hE}{w:iR}{H H':Hp}{h h':k7}{a:cA}{o:HO}{x e:cA}{o':HO}
theorem cN.lt(x:cN P w H h a o):a<h.objs.size:=by
 cases o with
 |L xs=>let(_,_,_,_,e):=x;$(e7 e)
 |U xs=>let(_,_,_,p):=x;$p.lt
 |dK kvs=>let(_,_,_,_,o,_,_,e,_):=x;$(e7 e)
 |dT kvs=>let(_,_,_,_,o,_,_,e,_):=x;$(e7 e)
 |set S n=>let(o,_,_,_,e,_):=x;$(e7 e)
 |ins C dx fs=>let(_,_,_,e,_):=x;$(e7 e)
 |O y=>let(_,e):=x;$(e7 e)
 |xd fs=>let(_,(_,_,_,e,_),_):=x;$(e7 e)
 |qH lo hi=>let(_,_,_,e):=x;$(e7 e)
 |aZ ob u=>let(e,_):=x;$(e7 e)
 |kZ ps=>$(e7 (x))
 |met f y=>$(e7 (x))
 |ext φ=>let(_,(_,e),_):=x;$(e7 e)
theorem Paired.qZ (p:aao F l₁ l₂)(f:∀a b,F a b->G a b):aao G l₁ l₂:=by
 induction p with
 |nil=>$(.nil)
 |cons r _ g=>$(.cons (f _ _ r) g)
theorem cN.hX(x:cN P w H h a o)(k:∀b u,(b=a\/H b=ac (.O a))->h.get? b=ac u->h'.get? b=ac u)
 (m:∀b,H b=ac (.O a)->H' b=ac (.O a))(s:∀b xs,H b=ac (.U xs)->H' b=ac (.U xs)):cN P w H' h' a o:=by
 induction o with
 |L xs=>let(z,its,n,r,e):=x;$({z,its,n,r,k _ _ (ι ρ) e})
 |U xs=>let(z,its,r,g,e,c):=x;$({z,its,r,g,k _ _ (ι ρ) e,c})
 |dK kvs=>let(z,y,vs,r,g,i,ep,e,c):=x;$({z,y,vs,r,g,i,ep,k _ _ (ι ρ) e,c})
 |dT kvs=>let(z,y,xs,r,g,i,ep,e,c):=x;$({z,y,xs,Paired.qZ r λp q z=>{z.1,s _ _ z.2.1,z.2.2},g,i,ep,k _ _ (ι ρ) e,c})
 |set S n=>let(g,i,ep,t,e,c):=x;$({g,i,ep,t,k _ _ (ι ρ) e,c})
 |ins C dx fs=>let(d,z,ne,e,j,(l,i,ep,A,c),r):=x;$({m _ d,z,ne,k _ _ (ι ρ) e,j,{l,i,ep,k _ _ (τ d) A,c},r})
 |O y=>let(g,e):=x;$({g,k _ _ (ι ρ) e})
 |xd fs=>let(j,(l,i,ep,e,c),r):=x;$({j,{l,i,ep,k _ _ (ι ρ) e,c},r})
 |qH lo hi=>let(t,u,v,e):=x;$({t,u,v,k _ _ (ι ρ) e})
 |aZ g u B=>let(e,q):=x;$({k _ _ (ι ρ) e,B q})
 |kZ ps=>let e:=x;$(k a _ (ι ρ) e)
 |met f y=>let e:=x;$(k a _ (ι ρ) e)
 |ext φ=>let(p,(o,e),st):=x;$({st _ _ p λo q=>k _ _ (ι ρ) q,{o,k _ _ (ι ρ) e},st})
def ck.lt(x:ck P w H h)(e:H a=ac o):a<h.objs.size:=(x a o e).lt
theorem ck.fresh(x:ck P w H h)(e:h.objs.size<=a):H a=al:=by
 cases q:H a with
 |none=>rfl
 |some u=>$(absurd (hQ (x.lt q) e)<|p5 _)
def ck.kept(x:ck P w H h)(k:∀b u,h.get? b=ac u->h'.get? b=ac u):ck P w H h':=λa o e =>
 (x a o e).hX (λb u _ q=>k b u q) (λ_ q=>q) λ_ _ q=>q
def ck.laid(x:ck P w H h)(k:∀b u,h.get? b=ac u->h'.get? b=ac u)(g:h.objs.size<=a)(new:cN P w (upd H a o) h' a o):ck P w (upd H a o) h':=λb u e=>by
 let d:=x.fresh g;ext(f:b=a)
 .$$f;rw[bw]at e;$$$$$$e;$new
 rw[aA f]at e;$((x b u e).hX (λc v _ q=>k c v q) (λc q=>by rw[aA (df q d)];$q) λc xs q=>by rw[aA (df q d)];$q)
def Rd(H:Hp)(a:cA)(u:HO):Prop:=H a=ac u\/∃o,H a=ac (.aZ o u)
def Rd.of (h:H a=ac u):Rd H a u:=ι h
def Rd.ok (r:Rd H a u)(x:ck P w H h):cN P w H h a u:=by
 let r||(o,r):=r
 .$(x a u r)
 let(_,q):=x a _ r;$q
def fT:Option HO->Prop
 |some (.L _)=>True
 |some (.dK _)=>True
 |some (.dT _)=>True
 |some (.set _ _)=>True
 |some (.ins _ _ _)=>True
 |some (.ext _)=>True
 |_=>False
def ck.write(ok:ck P w H h)(f:fT (H x))(n:e=x\/H e=ac (.O x))(k:∀b u,b≠e->h.get? b=ac u->h'.get? b=ac u)(l:∃u,h'.get? e=ac u)
 (new:cN P w (upd H x o') h' x o'):ck P w (upd H x o') h':=λb u q=>by
 let g:∀c y,H c=ac (.O y)->c≠x:=λc y r z=>by$$z;rwa[r]at f
 let i:∀c xs,H c=ac (.U xs)->c≠x:=λc xs r z=>by$$z;rwa[r]at f
 ext(j:b=x)
 .$$j;rw[bw]at q;$$$$$$q;$new
 rw[aA j]at q;ext(d:b=e)
 .let m:H b=ac (.O x):=by
   let z||z:=n
   .$(absurd (d.trans z) j)
   rwa[d]
  rw[q]at m;$$$$$$m;let(v,p):=l;$({v,by rw[d];$p})
 $((ok b u q).hX (λc v hc r=>k c v ?_ r) (λc r=>by rw[aA (g c b r)];$r) λc xs r=>by rw[aA (i c xs r)];$r)
 grind
end
structure Un (fs ex:List cA) (H H':Hp) (h h':k7):Prop where
 keep:∀b o,h.get? b=ac o->H b=al->b∉fs->b∉ex->h'.get? b=ac o
 slot:∀b o,h.get? b=ac o->H b=al->b∈fs->b∉ex->∃sl,h'.get? b=ac {o with slots:=sl}
 free:∀b o,h.get? b=ac o->H b=al->b∉ex->H' b=al
 there:∀b o,h.get? b=ac o->b∉ex->∃o',h'.get? b=ac o'
 iV:∀b xs,H b=ac (.U xs)->H' b=ac (.U xs)
 ig:∀b o u,H b=ac (.aZ o u)->H' b=ac (.aZ o u)
 iq:∀b ps,H b=ac (.kZ ps)->∃more,H' b=ac (.kZ<|ps++more)
section
variable{fs fs' ex ex':List cA}{H H1 H2:Hp}{h h1 h2 h':k7}{a x e:cA}{o:HO}
def Un.any(u:Un fs ex H H1 h h1)(q:h.get? b=ac c)(n:H b=al)(hx:b∉ex):∃f,h1.get? b=ac {c with slots:=f}:=by
 ext(d:b∈fs)
 .$(u.slot b c q n d hx)
 $({c.slots,u.keep b c q n d hx})
def Un.kept(k:∀b u,h.get? b=ac u->h'.get? b=ac u):Un fs ex H H h h' :=
 {λb c q _ _ _=>k b c q,λb c q _ _ _=>{c.slots,k b c q},λ_ _ _ n _=>n,λb c q _=>{c,k b c q},λ_ _ q=>q,λ_ _ _ q=>q,λ_ ps q=>{#[],by rw[q];simp}}
def Un.refl:Un fs ex H H h h:=Un.kept λ_ _ q=>q
def Un.laid(k:∀b u,h.get? b=ac u->h'.get? b=ac u)(d:h.objs.size<=a)(c:H a=al):Un fs ex H (upd H a o) h h' where
 keep:=λb u q _ _ _=>k b u q
 slot:=λb u q _ _ _=>{u.slots,k b u q}
 free:=λb u q n _=>by rw[aA (gk<|hQ (e7 q) d)];$n
 there:=λb u q _=>{u,k b u q}
 iV:=λb xs q=>by rw[aA (df q c)];$q
 ig:=λb u xs q=>by rw[aA (df q c)];$q
 iq:=λb ps q=>{#[],by rw[aA (df q c),q];simp}
def Un.write(d:fT (H x))(he:e=x\/H e=ac (.O x))(k:∀b u,b≠e->h.get? b=ac u->h'.get? b=ac u)(heo:∃u,h'.get? e=ac u):Un fs ex H (upd H x o) h h':=by
 let hx:∀b,H b=al->b≠x:=λb n z=>by$$z;rwa[n]at d
 let f:∀b,H b=al->b≠e:=by lia
 let c:∀b u,H b=ac u->¬fT (ac u)->b≠x:=by lia
 refine⟨λb u q n _ _=>k b u (f b n) q,λb u q n _ _=>{u.slots,k b u (f b n) q},λb u q n _=>by rw[aA (hx b n)];$n,λb u q _=>?_,
  λb xs q=>by rw[aA (c b _ q λz=>z)];$q,λb u xs q=>by rw[aA (c b _ q λz=>z)];$q,λb ps q=>{#[],by rw[aA (c b _ q λz=>z),q];simp}⟩
 ext(g:b=e);simp!;$({u,k b u g q})
end
def dZ(h:k7)(H:Hp):List Addr:=(lb h.objs.size).filter λa=>(H a).isSome
def kC(h:k7)(H:Hp):Heap:=W.hideAll h<|dZ h H
theorem QV (e:(kC h H).get? b=ac o):h.get? b=ac o/\H b=al:=by
 let a:=W.of_hideAll (dZ h H) e;$({a,?_});cases q:H b with
 |none=>rfl
 |some x=>simp![dZ,kC,e7,W.hideAll_none]
def mX(g h:k7)(L:cA):List (cA×ua):=(lb h.objs.size).filterMap λa=>if a=L\/(g.get? a).isSome=bd then al else(h.get? a).map λo=>(a,o)
def xh (c:a≠L)(d:g.get? a=al)(b:h.get? a=ac o):(a,o)∈mX g h L :=
 aa2.2 {a,aah.2<|e7 b,by simp[c,d,b]}
theorem JO (a:p∈mX g h L):p.1≠L/\g.get? p.1=al/\h.get? p.1=ac p.2:=by
 let(b,_,e):=aa2.1 a;$$$$$e
 .$(nO e)
 cases q:h.get? b with
 |none=>simp!
 |some u=>rw[q]at e;simp at e;$$e;simp!
def HJ:News g L h (mX g h L):=λp d=>let⟨a,b,c⟩:=JO d;⟨c,a,b⟩
structure Mod (K:e6) (mg:ew->Option bt) (base:k7):Prop where
 vE:K.In base
 glob:base.Ns hI mg
 blt:∃mb,base.Ns ae7 mb/\∀x:ew,x≠"__name__"->mb x=C' x
 nolimit:base.NoLimit
structure Cx where
 prog:hE
 w:iR
 K:e6
 mg:ew->Option bt
 base:k7
 A:nL
 N:List ew
 di:dq
 fK:Hp
 env:Env
 outer:List Env
 stack:List Env
 ex:List cA
 fn:ew->Bool
 calm:Bool
 pn:List (cA×ua)
 xe:bt->dq->Prop
def iX(l:List Env):List Addr:=l.filterMap (·.frame)
abbrev bM(x:ew):Prop:=(x==("__debug__":ew))=bi
abbrev cT(x:ew):Prop:=(x==("__classdict__":ew))=bi
abbrev bI(X:Cx)(e:fA)(a:List fA):Prop:=ma (e::a) X.env=(false,eval e X.env)::ma a X.env
abbrev my(X:Cx)(p:q7)(e:fA):Prop:=((YP p<|ma [e] X.env).all (λx=>!x.1)&&(af7 p<|aeL [] X.env).all (λx=>x.1.isSome)&&am ([e].length+([]:List adt).length+(if([]:List adt).isEmpty then 0 else 1)<30))=bd
abbrev Cx.fs(X:Cx):List Addr:=iX X.outer
def cw(a:Rr)(x:ew):Prop:=a.names.lookup x=some .local\/a.names.lookup x=some .cell\/a.names.lookup x=some .free
def Loc(a:Rr)(x:ew):Prop:=a.names.lookup x=some .local\/a.names.lookup x=some .cell
def Look(env:Env)(h:k7)(m:ew->Option bt)(x:ew)(u:bt):Prop :=
 (env.kindOf x=some .local/\m x=ac u)\/((env.kindOf x=some .cell\/env.kindOf x=some .free)/\∃c,env.cells.lookup x=ac c/\h.IsCell c (ac u))
structure Cx.Ok (X:Cx):Prop where
 mod:Mod X.K X.mg X.base
 kind:X.env.scope.kind=.function
 glob:X.env.globals=hI
 blt:X.env.builtins=ae7
 above:X.di.heap.objs.size<=X.env.locals
 inj:∀x y c,X.env.cells.lookup x=ac c->X.env.cells.lookup y=ac c->x=y
 has:∀x,(X.env.kindOf x=some .cell\/X.env.kindOf x=some .free)->∃c,X.env.cells.lookup x=ac c
 mP:∀x c,X.fn x=bd->X.env.cells.lookup x=ac c->X.di.heap.objs.size<=c
 hd:X.calm=bd->X.A.handled=al
 frames:X.A.frames=ac X.stack
 oY:X.stack=X.outer\/(X.stack=X.env::X.outer/\X.env.frame=ac X.env.locals)
 vH:∀b∈X.ex,b≠X.env.locals/\∀x c,X.env.cells.lookup x=ac c->c≠b
 bs:∀b o,X.base.get? b=ac o->X.di.heap.get? b=ac o/\X.fK b=al
 jI:X.base.objs.size<=X.di.heap.objs.size
 mT:∀b o,X.base.get? b=ac o->b∉X.ex
 qj:∀b∈X.ex,b∉X.fs
 gH:X.di.heap.FunFrames X.base X.outer
 lU:∀b∈X.fs,X.fK b=al
structure Inv (X:Cx) (pins:List (cA×ua)) (σ:List (Option V)) (H:Hp) (s:dq):Prop where
 ok:X.Ok
 os:s.os=X.di.os
 bare:abT s.gens
 base:Un X.fs X.ex X.fK H X.di.heap s.heap
 loc:∃m,s.heap.Ns X.env.locals m/\∀(i:Nat) (x:ew) (v:V),X.N[i]?=ac x->σ[i]?=ac (ac v)->cw X.env.scope x->∃u,RelV v u/\Look X.env s.heap m x u
 cell:∀x c,X.env.cells.lookup x=ac c->∃v,s.heap.IsCell c v
 free:H X.env.locals=al
 fV:∀x c,X.env.cells.lookup x=ac c->H c=al
 pin:∀p∈X.pn++pins,s.heap.get? p.1=ac p.2/\H p.1=al/\p.1≠X.env.locals/\p.1∉X.fs/\∀v,p.2.data≠.cell v
 aj:ck X.prog X.w H s.heap
 len:σ.length=X.N.length
section
variable{X:Cx}{pins:List (cA×ua)}{σ:List (Option V)}{H H':Hp}{s:dq}{h':k7}
def Cx.Ok.JC(ok:X.Ok)(e:X.base.get? b=ac o):b∉X.fs:=λa=>by let:=(ok.gH.mem a).1;simp!
def Inv.bs(I:Inv X pins σ H s):∀b o,X.base.get? b=ac o->s.heap.get? b=ac o/\H b=al:=λb o e =>
 {I.base.keep b o (I.ok.bs b o e).1 (I.ok.bs b o e).2 (I.ok.JC e) (I.ok.mT b o e),I.base.free b o (I.ok.bs b o e).1 (I.ok.bs b o e).2 (I.ok.mT b o e)}
def Inv.bk(I:Inv X pins σ H s):∀b o,X.base.get? b=ac o->s.heap.get? b=ac o:=λb o e=>(I.bs b o e).1
def Inv.mod(I:Inv X pins σ H s):Mod X.K X.mg X.base:=I.ok.mod
def Inv.gI(I:Inv X pins σ H s):X.K.In s.heap:=I.ok.mod.vE.keeps I.bk
def Inv.lt(I:Inv X pins σ H s):X.env.locals<s.heap.objs.size:=let⟨_,a,_⟩:=I.loc;a.lt
def Inv.sz(I:Inv X pins σ H s):X.di.heap.objs.size<=s.heap.objs.size:=m3 I.ok.above<|acu I.lt
def Inv.UE(I:Inv X pins σ H s)(h:s.heap.objs.size<=a):a∉X.fs:=λb=>by let(_,o,c,_):=I.ok.gH.mem b;$(absurd (hQ (e7 c)<|m3 I.sz h)<|p5 _)
def Inv.jJ(I:Inv X pins σ H s):∀x c,X.env.cells.lookup x=ac c->c≠X.env.locals:=λx c e z=>by let(v,o,ho,hd):=I.cell x c e;let(m,(o',es,ep,ho',hd',_),_):=I.loc;simp!
theorem Inv.gH(I:Inv X pins σ H s):s.heap.FunFrames X.base X.outer:=by
 let all:∀(l:List Env),(∀b∈iX l,b∈X.fs)->X.di.heap.FunFrames X.base l->s.heap.FunFrames X.base l:=by
  ext l;induction l with
  |nil=>ext _ _;trivial
  |cons env r g=>ext f h;let(i,(L,o,a,j,k,hd),m):=h;let c:=f L (by$$(iX);rw[abY,a];$eR);let(sl,e):=I.base.slot L o k (I.ok.lU L c) c λz=>I.ok.qj L z c;$({i,{L,_,a,j,e,hd},g (λb d=>f b (by$$(iX);rw[abY,a];$(eH _ d))) m})
 $(all X.outer (λ_ d=>d) I.ok.gH)
def Inv.stack(I:Inv X pins σ H s):s.heap.FunFrames X.base X.stack:=by
 let e||(e,a):=I.ok.oY
 .rw[e];$I.gH
 rw[e];let(m,b,_):=I.loc;$(.cons (by rw[I.ok.kind];decide) a b ?_ I.gH);$(Heap.get?_none_of_le<|m3 I.ok.jI I.ok.above)
def Inv.wg(I:Inv X pins σ H s):∀b∈iX X.stack,b∈X.env.locals::X.fs:=λb a=>by
 let e||(e,c):=I.ok.oY
 .rw[e]at a;$(eH _ a)
 rw[e]at a;delta iX at a;simp?[abY,c]at a;$a
def Inv.CY(I:Inv X pins σ H s):∀b∈iX X.stack,H b=al:=λb a=>by
 let e||a:=dV.1 (I.wg b a)
 .rw[e];$I.free
 let(_,o,c,_):=I.ok.gH.mem a;$(I.base.free b o c (I.ok.lU b a) λz=>I.ok.qj b z a)
def Inv.step{g':Array adC}{t':Nat}{d':Drawn}{ch:List cA}(I:Inv X pins σ H s)
 (f:∀b∈ch,(b∈X.ex\/X.di.heap.objs.size<=b)/\b≠X.env.locals/\(∀x c,X.env.cells.lookup x=ac c->c≠b)/\∀p∈X.pn++pins,p.1≠b)
 (keep:∀b o,b≠X.env.locals->b∉X.fs->b∉ch->s.heap.get? b=ac o->H b=al->h'.get? b=ac o)
 (slot:∀b o,b≠X.env.locals->b∈X.fs->b∉ch->s.heap.get? b=ac o->H b=al->∃D,h'.get? b=ac {o with slots:=D})(free:∀b o,b∉ch->s.heap.get? b=ac o->H b=al->H' b=al)
 (there:∀b o,b∉ch->s.heap.get? b=ac o->∃A,h'.get? b=ac A)
 (iV:∀b xs,H b=ac (.U xs)->H' b=ac (.U xs))(ig:∀b o u,H b=ac (.aZ o u)->H' b=ac (.aZ o u))(iq:∀b ps,H b=ac (.kZ ps)->∃more,H' b=ac (.kZ<|ps++more))
 (ns:∀m,s.heap.Ns X.env.locals m->h'.Ns X.env.locals m)(aj:ck X.prog X.w H' h')(J:abT g') :
  Inv X pins σ H' {s with heap:=h',gens:=g',drawn:=d',toks:=t'}:=by
 let C:∀b o,X.di.heap.get? b=ac o->b≠X.env.locals:=λb o e=>gk<|hQ (e7 e) I.ok.above;let j:∀b o,X.di.heap.get? b=ac o->b∉X.ex->b∉ch:=λb o e hx h=>by
  let z||z:=(f b h).1
  .$(hx z)
  $(absurd (hQ (e7 e) z)<|p5 _)
 let t:∀x c,X.env.cells.lookup x=ac c->∀v,s.heap.IsCell c v->h'.IsCell c v:=λx c e v ⟨o,y,hd⟩=>by
  let g:c∉ch:=λz=>(f c z).2.2.1 x c e ρ;ext(E:c∈X.fs)
  .let(D,q):=slot c o (I.jJ x c e) E g y<|I.fV x c e;$({_,q,hd})
  $({o,keep c o (I.jJ x c e) E g y<|I.fV x c e,hd})
 $({I.ok,I.os,J,{λb o e n h hx=>?_,λb o e n h hx=>?_,λb o e n hx=>?_,λb o e hx=>?_,λb xs e=>iV b xs<|I.base.iV b xs e,λb o xs e=>ig b o xs<|I.base.ig b o xs e,λb ps e=>?_},?_,λx c e=>?_,?_,λx c e=>?_,λp F=>?_,aj,I.len})
 .$(keep b o (C b o e) h (j b o e hx) (I.base.keep b o e n h hx)<|I.base.free b o e n hx)
 .let(D,a):=I.base.slot b o e n h hx;let(G,B):=slot b _ (C b o e) h (j b o e hx) a<|I.base.free b o e n hx;$(⟨G,B⟩)
 .let(A,a):=I.base.there b o e hx;$(free b A (j b o e hx) a<|I.base.free b o e n hx)
 .let(A,a):=I.base.there b o e hx;$(there b A (j b o e hx) a)
 .let(K,a):=I.base.iq b ps e;let(L,B):=iq b _ a;$({K++L,by rw[B,ad5]})
 .let(m,M,N):=I.loc;$({m,ns m M,λi x v a B O=>?_});let(u,r,l):=N i x v a B O;$({u,r,?_});let l||(k,c,e,z):=l
  .$(ι l)
  $(τ {k,c,e,t x c e _ z})
 .let(v,z):=I.cell x c e;$({v,t x c e v z})
 .let(m,(o,_,_,y,_),_):=I.loc;$(free _ o (λz=>(f _ z).2.1 ρ) y I.free)
 .let(v,o,y,hd):=I.cell x c e;$(free c o (λz=>(f c z).2.2.1 x c e ρ) y<|I.fV x c e)
 let(e,n,ne,nf,d):=I.pin p F;let g:p.1∉ch:=λz=>(f p.1 z).2.2.2 p F ρ;$({keep p.1 p.2 ne nf g e n,free p.1 p.2 g e n,ne,nf,d})
def Inv.un (I:Inv X pins σ H s)(u:Un X.fs [] H H' s.heap h')(aj:ck X.prog X.w H' h'):Inv X pins σ H' {s with heap:=h',toks:=t'}:=by
 let(m,(o,es,ep,d,r),_):=id I.loc;let(sl,h):=u.any d I.free ⋯
 $(I.step (ch:=[]) (λ_ z=>nomatch z) (λb o _ c _ e n=>u.keep b o e n c ⋯) (λb o _ c _ e n=>u.slot b o e n c ⋯) (λb o _ e n=>u.free b o e n ⋯) (λb o _ e=>u.there b o e ⋯) u.iV u.ig u.iq (λm' i=>by let(o',f,g,a,j):=i;rw[d]at a;$$$$$$a;$({_,f,g,h,j})) aj I.bare)
def Inv.call (I:Inv X pins σ H s)(u:Un (iX X.stack) ch H H' s.heap h')(aj:ck X.prog X.w H' h')(k:abT g')(d:∀b∈ch,(b∈X.ex\/X.di.heap.objs.size<=b)/\b≠X.env.locals/\(∀x c,X.env.cells.lookup x=ac c->c≠b)/\∀p∈X.pn++pins,p.1≠b) :
  Inv X pins σ H' {s with heap:=h',gens:=g',drawn:=d',toks:=t'}:=by
 let(m,(o,es,ep,h,r),_):=id I.loc;let(sl,g):=u.any h I.free λz=>(d _ z).2.1 ρ
 $(I.step d (λb o g l a e n=>u.keep b o e n (λz=>(dV.1<|I.wg b z).elim g l) a) (λb o _ _ a e n=>u.any e n a) (λb o a e n=>u.free b o e n a) (λb o a e=>u.there b o e a) u.iV u.ig u.iq (λm' q=>by let(o',i,j,f,t):=q;rw[h]at f;$$$$$$f;$({_,i,j,g,t})) aj k)
def Inv.turned (I:Inv X pins σ H s)(k:∀b o,b≠it->s.heap.get? b=ac o->h'.get? b=ac o)(hn:H it=al)(f:it≠X.env.locals)(g:it∈X.ex\/X.di.heap.objs.size<=it)(h:∀x c,X.env.cells.lookup x=ac c->c≠it)(i:∀p∈X.pn++pins,p.1≠it):Inv X pins σ H {s with heap:=h',toks:=t'}:=by
 let d:∀b u,H b=ac u->b≠it:=by lia
 $(I.step (ch:=[it]) (λb j=>?_) (λb o _ _ a e _=>k b o (λz=>a (by simp[z])) e) (λb o _ _ a e _=>{o.slots,k b o (λz=>a (by simp[z])) e}) (λ_ _ _ _ n=>n)
  (λb o a e=>{o,k b o (λz=>a (by simp[z])) e}) (λ_ _ e=>e) (λ_ _ _ e=>e) (λb ps e=>{#[],by rw[e];simp}) (λm l=>?_) (λb u e=>?_) I.bare)
 .let e:b=it:=by$$$$j
  $$e;$(⟨g,f,h,i⟩)
 .let(o,t,ep,w,r):=l;$({o,t,ep,k _ o (Ne.symm f) w,r})
 $((I.aj b u e).hX (λc v a q=>k c v ?_ q) (λ_ q=>q) λ_ _ q=>q);let z||z:=a
 .rw[z];$(d b u e)
 $(d c _ z)
def Inv.tok(I:Inv X pins σ H s)(t:Nat):Inv X pins σ H {s with toks:=t}:=I.un Un.refl I.aj
def Inv.kept (I:Inv X pins σ H s)(k:∀b u,s.heap.get? b=ac u->h'.get? b=ac u):Inv X pins σ H {s with heap:=h',toks:=t'}:=I.un (Un.kept k)<|I.aj.kept k
def Inv.laid (I:Inv X pins σ H s)(k:∀b u,s.heap.get? b=ac u->h'.get? b=ac u)(c:s.heap.objs.size<=a)(new:cN X.prog X.w (upd H a o) h' a o) :
  Inv X pins σ (upd H a o) {s with heap:=h',toks:=t'}:=I.un (Un.laid k c<|I.aj.fresh c)<|I.aj.laid k c new
def Inv.write (I:Inv X pins σ H s)(c:fT (H x))(d:e=x\/H e=ac (.O x))(k:∀b u,b≠e->s.heap.get? b=ac u->h'.get? b=ac u)(a:∃u,h'.get? e=ac u)(new:cN X.prog X.w (upd H x o) h' x o):Inv X pins σ (upd H x o) {s with heap:=h',toks:=t'}:=I.un (Un.write c d k a)<|I.aj.write c d k a new
def Inv.Fp (I:Inv X pins σ H s)(h:∀p∈a,s.heap.get? p.1=ac p.2/\H p.1=al/\p.1≠X.env.locals/\p.1∉X.fs/\∀v,p.2.data≠.cell v):Inv X a σ H s :=
 {I.ok,I.os,I.bare,I.base,I.loc,I.cell,I.free,I.fV,λp b=>(el.1 b).elim (λz=>I.pin p<|aaP _ z) (h p),I.aj,I.len}
def Gq{N:List ew}(c:N.Nodup){i j:Nat}{x:ew}(a:N[i]?=ac x)(b:N[j]?=ac x):i=j:=by let(h1,d):=bg.1 a;let(h2,e):=bg.1 b;$((He c).1 (d.trans e.symm))
def E2 (I:Inv X pins σ H s)(hN:X.N.Nodup)(hi:X.N[i]?=ac x)(hx:Loc X.env.scope x)(r:RelV v u)(h:∀s',Inv X pins (σ.set i<|ac v) H s'->(∃a,aaX a s.heap s'.heap/\(a=X.env.locals\/X.env.cells.lookup x=ac a))->Q () s')(hf:X.fn x=bd\/X.env.scope.names.lookup x=some .local:=by first|$(ι ρ)|$(τ ρ)|assumption):gW M A (storeName X.env x u) Q E s:=by
 let(m,S,hl):=id I.loc;let T:(X.env.scope.kind==.class||(X.env.scope.kind==.module&&X.env.locals != X.env.globals))=bi:=by rw[I.ok.kind];rfl
 let G:i<σ.length:=by rw[I.len];$((bg.1 hi).1)
 let jJ:=I.jJ;let tracked:∀{a:cA}{h':k7},(∃o,s.heap.get? a=ac o/\H a=al)->aaX a s.heap h'->ck X.prog X.w H h':=λ{a h'} ha f b ob e=>by
  let(_,_,F):=ha;$((I.aj b ob e).hX (λc K l q=>(f.2 c ?_).trans q) (λ_ q=>q) λ_ _ q=>q);ext rfl;let rfl||l:=l
  .rw[F]at e;$(nO e)
  rw[F]at l;$(nO l)
 let B||B:=hx
 .refine wpAny_storeName_local B S (λh' Wa f=>?_) T;let(oL,_,_,Wb,_):=id S;$(h _ {I.ok,I.os,I.bare,{λb o e n C hx=>?_,λb o e n C hx=>?_,I.base.free,λb o e hx=>?_,I.base.iV,I.base.ig,I.base.iq},{_,Wa,λj y U g t W=>?_},λy c e=>?_,I.free,I.fV,λp Y=>?_,tracked ⟨oL,Wb,I.free⟩ f,by$$$$I.len} {_,f,ι ρ})
  .exact (f.2 b<|gk<|hQ (e7 e) I.ok.above).trans (I.base.keep b o e n C hx)
  .let(Z,g):=I.base.slot b o e n C hx;$({Z,(f.2 b<|gk<|hQ (e7 e) I.ok.above).trans g})
  .let(o',g):=I.base.there b o e hx;$({o',(f.2 b<|gk<|hQ (e7 e) I.ok.above).trans g})
  .ext(D:j=i)
   .subst D;rw[hi]at g;$$$$$$g;rw[hY G]at t;$$$t;$({u,r,ι {B,⋯}})
   rw[g0 (Ne.symm D)]at t;let(u',r',q):=hl j y U g t W;$({u',r',?_});let(k,e)||(k,c,e,z):=q
   .refine ι {k,?_};let:y≠x:=λe=>D (Gq hN g<|e ▸ hi);simp[this,e]
   exact τ {k,c,e,z.sameBut f<|jJ y c e}
  .let(K,z):=I.cell y c e;$({K,z.sameBut f<|jJ y c e})
  let(e,n,ne,nf,d):=I.pin p Y;$({(f.2 p.1 ne).trans e,n,ne,nf,d})
 let J:X.fn x=bd:=by
  let z||z:=hf
  .exact z
  rw[z]at B;lk
 let(c,l):=I.ok.has x<|ι B;let(K,z):=I.cell x c l;$(wpAny_storeName_cell I.ok.kind B l z<|λh' O f=>?_);let(oc,P,V8):=id z;$(h {s with heap:=h'} {I.ok,I.os,I.bare,{λb o e n C hx=>?_,λb o e n C hx=>?_,I.base.free,λb o e hx=>?_,I.base.iV,I.base.ig,I.base.iq},{m,S.sameBut f<|Ne.symm<|jJ x c l,λj y U g t W=>?_},λy L e=>?_,I.free,I.fV,λp Y=>?_,tracked {oc,P,I.fV x c l} f,by$$$$I.len} {c,f,τ l})
 .exact (f.2 b<|gk<|hQ (e7 e)<|I.ok.mP x c J l).trans (I.base.keep b o e n C hx)
 .let(Z,g):=I.base.slot b o e n C hx;$({Z,(f.2 b<|gk<|hQ (e7 e)<|I.ok.mP x c J l).trans g})
 .let(o',g):=I.base.there b o e hx;$({o',(f.2 b<|gk<|hQ (e7 e)<|I.ok.mP x c J l).trans g})
 .ext(D:j=i)
  .subst D;rw[hi]at g;$$$$$$g;rw[hY G]at t;$$$t;$({u,r,τ {ι B,c,l,O}})
  rw[g0 (Ne.symm D)]at t;let(u',r',q):=hl j y U g t W;$({u',r',?_});let q||(k,L,e,z'):=q
  .exact ι q
  refine τ {k,L,e,z'.sameBut f ?_};ext rfl;$(D<|Gq hN g<|I.ok.inj _ _ _ e l ▸ hi)
 .ext(R:L=c)
  .subst R;$({_,O})
  let(w2,z2):=I.cell y L e;$({w2,z2.sameBut f R})
 let(e,n,ne,nf,d):=I.pin p Y;$({(f.2 p.1 ?_).trans e,n,ne,nf,d});ext q;rw[q,P]at e;$(d K (by rw[<-(Option.some.inj e)];$V8))
def Fc (I:Inv X pins σ H s)(a:X.N.Nodup)(hi:X.N[i]?=ac x)(hx:Loc X.env.scope x)(r:RelV v u)(h:∀s',Inv X pins (σ.set i<|ac v) H s'->Q () s')(b:X.fn x=bd\/X.env.scope.names.lookup x=some .local:=by first|$(ι ρ)|$(τ ρ)|assumption):gW M A (storeName X.env x u) Q E s :=
 E2 I a hi hx r (λs' c _=>h s' c) b
def Inv.MC (I:Inv X pins σ H s)(d:s'.os=s.os)(u:Un (iX X.stack) ch H H' s.heap s'.heap)(aj:ck X.prog X.w H' s'.heap)(f:abT s'.gens)(a:∀b∈ch,(b∈X.ex\/X.di.heap.objs.size<=b)/\b≠X.env.locals/\(∀x c,X.env.cells.lookup x=ac c->c≠b)/\∀p∈X.pn++pins,p.1≠b):Inv X pins σ H' s':=by let(h',g',d',t',g):=s';let e:=d;$$e;$(I.call u aj f a)
end
abbrev XK:=bt->Option cA->Hp->Prop
abbrev St:=List<|Option V
abbrev VK:=V->Hp->Prop
abbrev TE:=St->Hp->VK->Prop
abbrev TT:=St->Hp->(Bool->Hp->Prop)->Prop
abbrev TA:=St->Hp->(List V->Hp->Prop)->Prop
structure Ends where
 nx:St->Hp->Prop
 rt:VK
 bk:St->Hp->Prop:=λ_ _=>False
 ct:St->Hp->Prop:=λ_ _=>False
abbrev TS:=Ends->St->Hp->Prop
inductive EP (X:Cx) (pins:List (cA×ua)) (σ:St) (Q:VK) (u:bt) (s':dq):Prop
 |mk (v) (H') (i:Inv X pins σ H' s') (r:RelV v u) (q:Q v H')
def TP(X:Cx)(a:List (cA×ua))(d:St)(Q:Bool->Hp->Prop)(b:Bool)(s':dq):Prop:=∃c,Inv X a d c s'/\Q b c
inductive AP (X:Cx) (pins:List (cA×ua)) (σ:St) (Q:List V->Hp->Prop) (us:List bt) (s':dq):Prop
 |mk (vs) (H') (i:Inv X pins σ H' s') (r:aH vs us) (q:Q vs H')
def SP(X:Cx)(c:List (cA×ua))(D:Ends)(f:Flow)(s':dq):Prop :=
 match f with
 |.next=>∃a b,Inv X c a b s'/\D.nx a b
 |.brk=>∃a b,Inv X c a b s'/\D.bk a b
 |.cont=>∃a b,Inv X c a b s'/\D.ct a b
 |.ret u=>∃v a b,Inv X c a b s'/\RelV v u/\D.rt v b
def PE(X:Cx)(e:fA)(t:TE):Prop :=
 ∀(a:List (cA×ua)) (s:dq) (b:St) (H:Hp) (Q:VK),Inv X a b H s->t b H Q->gW (hJ X.prog X.w) X.A (eval e X.env) (EP X a b Q) X.xe s
def PT(X:Cx)(e:fA)(t:TT):Prop :=
 ∀(a:List (cA×ua)) (s:dq) (b:St) (H:Hp) (Q:Bool->Hp->Prop),Inv X a b H s->t b H Q->gW (hJ X.prog X.w) X.A (aej e X.env<|eval e X.env) (TP X a b Q) X.xe s
def PW(X:Cx)(e:fA)(t:TT):Prop :=
 ∀(whole:Sem bt) (a:List (cA×ua)) (s:dq) (b:St) (H:Hp) (Q:Bool->Hp->Prop),Inv X a b H s->t b H Q->gW (hJ X.prog X.w) X.A (aej e X.env whole) (TP X a b Q) X.xe s
def PW.pt (h:PW X e t):PT X e t:=h _
def PA(X:Cx)(c:List fA)(t:TA):Prop :=
 ∀(pos:q7) (a:List (cA×ua)) (s:dq) (b:St) (H:Hp) (Q:List V->Hp->Prop),Inv X a b H s->t b H Q->gW (hJ X.prog X.w) X.A (spliced<|YP pos<|ma c X.env) (AP X a b Q) X.xe s
def PS(X:Cx)(st:zR)(t:TS):Prop :=
 ∀(a:List (cA×ua)) (s:dq) (b:St) (H:Hp) (D:Ends),Inv X a b H s->t D b H->gW (hJ X.prog X.w) X.A (exec st X.env) (SP X a D) X.xe s
def da(X:Cx)(st:List zR)(t:TS):Prop :=
 ∀(a:List (cA×ua)) (s:dq) (b:St) (H:Hp) (D:Ends),Inv X a b H s->t D b H->gW (hJ X.prog X.w) X.A (execs st X.env) (SP X a D) X.xe s
def aF (h:gW M A t Q E s)(d:∀a s,Q a s->c a s):gW M A t c E s:=za h d λ_ _ x=>x
section
variable{X:Cx}
def lV(i:Nat):TE:=λa H Q=>∃v,a[i]?=ac (ac v)/\Q v H
def tC(v:V):TE:=λ_ H Q=>Q v H
def eX (k:X.N[i]?=ac x)(n:cw X.env.scope x)(hd:bM x:=by decide)(g:cT x:=by decide):PE X (.Name x pos) (lV i):=by
 ext f s o H Q I h;let(v,e,h):=h;let(m,p,q):=I.loc;let(u,r,l):=q i x v k e n;let d:EP X f o Q u s:=⟨v,H,I,r,h⟩;let(a,t)||(a,c,j,b):=l
 .$(ae3 (wpAny_loadName_local I.ok.kind a p t d) hd)
 let a||a:=a
 .$(ae3 (wpAny_loadName_cell I.ok.kind a j b d) hd)
 $(ae3 (wpAny_loadName_free I.ok.kind a j b d g) hd)
def Kz{b j pos}:PE X (.Constant (.bool b) j pos) (tC<|.bl b):=λ_ _ _ H _ I h=>Constant_bool {.bl b,H,I,ρ,h}
def EE{x j pos}:PE X (.Constant (.str x) j pos) (tC<|.str x):=λ_ _ _ H _ I h=>adY {.str x,H,I.tok _,{_,ρ},h}
def Gl(X:Cx)(x:ew):Prop:=X.env.kindOf x=some .globalImplicit
def CS (I:Inv X a b H s)(c:Gl X x)(d:X.mg x=ac u)(h:Q u s)(hd:bM x:=by decide):gW (hJ X.prog X.w) X.A (eval (.Name x pos) X.env) Q E s :=
 acT I.ok.kind c (Calls.loadGlobal_global (by rw[I.ok.glob];$(I.mod.glob.keeps I.bk)) d h) hd
def pK (I:Inv X a b H s)(c:Gl X x)(d:X.mg x=al)(e:C' x=ac u)(h:Q u s)(f:x≠"__name__":=by decide)(hd:bM x:=by decide):gW (hJ X.prog X.w) X.A (eval (.Name x pos) X.env) Q E s:=by let(mb,g,i):=I.mod.blt;$(acT I.ok.kind c (Calls.loadGlobal_builtin (by rw[I.ok.glob];$(I.mod.glob.keeps I.bk)) d (by rw[I.ok.blt];$(g.keeps I.bk)) ((i x f).trans e) h) hd)
def C9 (a:Gl X x)(b:X.mg x=ac u)(r:RelV v u)(hd:bM x:=by decide):PE X (.Name x pos) (tC v) :=
 λ_ _ _ H _ I h=>CS I a b ⟨v,H,I,r,h⟩ hd
def UL (a:Gl X x)(b:X.mg x=al)(c:C' x=ac u)(r:RelV v u)(d:x≠"__name__":=by decide)(hd:bM x:=by decide):PE X (.Name x pos) (tC v) :=
 λ_ _ _ H _ I h=>pK I a b c ⟨v,H,I,r,h⟩ d hd
variable{a b:fA}{ta tb:TE}{pos:q7}
variable{tA tB':TT}{rest:List fA}
def O6(t u:TT):TT:=λd H Q=>t d H λc e=>if c=bd then u d e Q else Q false e
def Py(t u:TT):TT:=λd H Q=>t d H λc e=>if c=bd then Q true e else u d e Q
def LO(t:TT):TT:=λd H Q=>t d H λc e=>Q (!c) e
theorem Uc(f:PT X a tA):PW X (.BoolOp .And [a] pos) tA:=by
 $(λwh d s g H Q I h=>isTrue_and (aF (f d s g H Q I h) λc s1 e=>?_));cases c with
 |true=>$(isTrue_and_nil e)
 |false=>$e
theorem Kx(f:PT X a tA):PW X (.BoolOp .Or [a] pos) tA:=by
 $(λwh d s g H Q I h=>isTrue_or (aF (f d s g H Q I h) λc s1 e=>?_));cases c with
 |false=>$(isTrue_or_nil e)
 |true=>$e
theorem Ur(j:PT X a tA)(k:PW X (.BoolOp .And (b::rest) pos) tB'):PW X (.BoolOp .And (a::b::rest) pos) (O6 tA tB'):=by
 $(λl d s e H Q I h=>isTrue_and (aF (j d s e H _ I h) λc m q=>?_));let(f,g,i):=q;cases c with
 |true=>$(k l d m e f Q g i)
 |false=>$(⟨f,g,i⟩)
theorem UP(j:PT X a tA)(k:PW X (.BoolOp .Or (b::rest) pos) tB'):PW X (.BoolOp .Or (a::b::rest) pos) (Py tA tB'):=by
 $(λl d s e H Q I h=>isTrue_or (aF (j d s e H _ I h) λc m q=>?_));let(f,g,i):=q;cases c with
 |true=>$(⟨f,g,i⟩)
 |false=>$(k l d m e f Q g i)
def NN{op}(h:PE X a t):PE X (.BoolOp op [a] pos) t:=λc s d H Q I hw=>BoolOp_one<|h c s d H Q I hw
end
def bV(K:e6)(H:Hp)(a:cA)(xs:List V):Prop :=
 Rd H a (.L xs) \/
  ∃(o:ua) (its:Array bt) (n:Nat),K.lookup a=ac o/\o.cls=.type "list"/\o.dict=al/\o.data=.seq its n/\its.size<=a9/\aH xs its.toList
def bj(K:e6)(H:Hp)(a:cA)(xs:List V):Prop :=
 Rd H a (.U xs) \/
  ∃(o:ua) (its:Array bt) (n:Nat),K.lookup a=ac o/\o.cls=.type "tuple"/\o.data=.seq its n/\its.size<=a9/\aH xs its.toList
def O':bt->Option V
 |.none=>some .aP
 |.bool b=>ac (.bl b)
 |.int i _=>ac (.int i)
 |.str x _=>ac (.str x)
 |.bytes b _=>ac (.rJ b)
 |.float b _=>ac (.Bk b)
 |.ref a=>ac (.ref a)
 |.type n=>ac (.ty n)
 |_=>al
theorem RelV.abs (r:RelV x u):O' u=ac x:=by
 cases x with
 |aP=>$$r;rfl
 |bl _=>$$r;rfl
 |int _=>let(t,rfl):=r;rfl
 |str _=>let(t,rfl):=r;rfl
 |rJ _=>let(t,rfl):=r;rfl
 |Bk _=>let(t,rfl):=r;rfl
 |ref _=>$$r;rfl
 |ty _=>$$r;rfl
def RelV.inj (r:RelV x u)(q:RelV y u):x=y:=Option.some.inj<|r.abs.symm.trans q.abs
theorem aH.inj (h:aH xs a)(h':aH ys a):xs=ys:=by
 induction h generalizing ys with
 |nil=>$$$h';rfl
 |cons r t b =>
  cases h' with
  |cons c t'=>rw[r.inj c,b t']
section
variable{X:Cx}{pins:List (cA×ua)}{σ:St}{H:Hp}{s:dq}{a:cA}{xs ys:List V}{E:bt->dq->Prop}
def bV.of{K:e6}(h:H a=ac (.L xs)):bV K H a xs:=ι<|ι h
def bj.of{K:e6}(h:H a=ac (.U xs)):bj K H a xs:=ι<|ι h
def Inv.list(I:Inv X pins σ H s)(h:bV X.K H a xs):∃its:List bt,aH xs its/\PlainL s.heap a its.toArray/\xs.length<=sizeLine:=by
 let h||(o,its,n,b,c,hd,d,hz,r):=h
 .let(z,its,n,r,e):=h.ok I.aj;$({its,r,{_,n,e,ρ,ρ,ρ},z})
 $({its.toList,r,{o,n,I.gI a o b,c,hd,by$$$$d},?_});let e:=r.length;simp!
def Inv.tuple(I:Inv X pins σ H s)(h:bj X.K H a xs):∃its:List bt,aH xs its/\aaM s.heap a its.toArray/\xs.length<=sizeLine:=by
 let h||(o,its,n,b,c,d,hz,r):=h
 .let(z,its,r,p):=h.ok I.aj;$(⟨its,r,p,z⟩)
 $({its.toList,r,{o,I.gI a o b,c,n,by$$$$d},?_});let e:=r.length;simp!
def Inv.PK(I:Inv X pins σ H s)(h:bV X.K H a xs)(h':bV X.K H a ys):xs=ys:=by
 let(its,r,(o,n,e,_,_,d),_):=I.list h;let(its',c,(o',n',b,_,_,d'),_):=I.list h';rw[e]at b;$$$$$$b;rw[d]at d';injection d' with f _;let:its=its':=by$$$$(congrArg afh f)
 $$this;$(r.inj c)
def Inv.Mz(I:Inv X pins σ H s)(h:bj X.K H a xs)(h':bj X.K H a ys):xs=ys:=by
 let(its,r,(o,e,_,n,d),_):=I.tuple h;let(its',c,(o',b,_,n',d'),_):=I.tuple h';rw[e]at b;$$$$$$b;rw[d]at d';injection d' with f _;let:its=its':=by$$$$(congrArg afh f)
 $$this;$(r.inj c)
abbrev Cx.jY(X:Cx)(E:bt->dq->Prop):Cx:={X with xe:=E}
abbrev Cx.ku(X:Cx):Cx:=X.jY λ_ _=>False
def Cx.Ok.jY (ok:X.Ok)(E:bt->dq->Prop):(X.jY E).Ok :=
 ⟨ok.mod,ok.kind,ok.glob,ok.blt,ok.above,ok.inj,ok.has,ok.mP,ok.hd,ok.frames,ok.oY,ok.vH,ok.bs,ok.jI,ok.mT,ok.qj,ok.gH,ok.lU⟩
def Cx.Ok.lZ (ok:(X.jY E).Ok):X.Ok :=
 ⟨ok.mod,ok.kind,ok.glob,ok.blt,ok.above,ok.inj,ok.has,ok.mP,ok.hd,ok.frames,ok.oY,ok.vH,ok.bs,ok.jI,ok.mT,ok.qj,ok.gH,ok.lU⟩
def Inv.jY(I:Inv X pins σ H s)(E:bt->dq->Prop):Inv (X.jY E) pins σ H s:={I.ok.jY E,I.os,I.bare,I.base,I.loc,I.cell,I.free,I.fV,I.pin,I.aj,I.len}
def Inv.lZ(I:Inv (X.jY E) pins σ H s):Inv X pins σ H s:=⟨I.ok.lZ,I.os,I.bare,I.base,I.loc,I.cell,I.free,I.fV,I.pin,I.aj,I.len⟩
theorem SP.lZ (h:SP (X.jY E) pins D f s'):SP X pins D f s':=by
 cases f with
 |next=>let(b,c,I,q):=h;$(⟨b,c,I.lZ,q⟩)
 |brk=>let(b,c,I,q):=h;$(⟨b,c,I.lZ,q⟩)
 |cont=>let(b,c,I,q):=h;$(⟨b,c,I.lZ,q⟩)
 |ret u=>let(v,b,c,I,r,q):=h;$(⟨v,b,c,I.lZ,r,q⟩)
def da.ku{st:List zR}{t:TS}(h:da X.ku st t):da X st t:=λpins s σ H D I hw =>
 za (h pins s σ H D (I.jY _) hw) (λ_ _ q=>q.lZ) λ_ _ z=>KX z
end
section
variable{X:Cx}{st:zR}{rest:List zR}{t u:TS}{e:fA}{te:TE}{pos:q7}
def zM:TS:=λD a H=>D.nx a H
def wL(t u:TS):TS:=λD a H=>t {D with nx:=u D} a H
def Al:da X [] zM:=λ_ _ a H _ I h=>aa6 ⟨a,H,I,h⟩
theorem kr(c:PS X st t)(d:da X rest u):da X (st::rest) (wL t u):=by
 $(λa s g H D I h=>afv (aF (c a s g H {D with nx:=u D} I h) λf i q=>?_));cases f with
 |next=>let(b,j,k,q):=q;$(d a i b j D k q)
 |ret v=>$q
 |brk=>$q
 |cont=>$q
theorem LH(b:PS X st t):da X [st] t:=by
 ext a s c H D I h;$(afv (aF (b a s c H D I h) λf s1 q=>?_));cases f with
 |next=>$(aa6 q)
 |ret v=>$q
 |brk=>$q
 |cont=>$q
def Inv.quiet (I:Inv X a b H s):interactive X.env=bi:=by simp[interactive,I.ok.kind]
def uL(te:TE):TS:=λD a H=>te a H λ_ b=>D.nx a b
def vA(c:PE X e te)(d:um e al pos.line X.env=pure false:=by rfl):PS X (.Expr e pos) (uL te):=by$(λa s b H D I h=>wpAny_Expr_any (aF (c a s b H _ I h) λv s1 ⟨x,f,g,r1,i⟩=>⟨b,f,g,i⟩) I.quiet d)
def QR(te:TE):TS:=λD a H=>te a H D.rt
def LR(c:PE X e te):PS X (.Return (ac e) pos) (QR te):=by$(λa s b H D I h=>wpAny_Return_some (aF (c a s b H _ I h) λv s1 ⟨x,d,f,g,i⟩=>⟨x,b,d,f,g,i⟩))
def zW(c:TT)(t u:TS):TS:=λD a H=>c a H λb d=>if b=bd then t D a d else u D a d
theorem zx (m:PT X c tc)(n:da X a t)(o:da X b u):PS X (.If c a b pos) (zW tc t u):=by
 $(λf s g H D I h=>wpAny_If (aF (m f s g H _ I h) λd i e=>?_));let(j,k,l):=e;cases d with
 |true=>$(n f i g j D k l)
 |false=>$(o f i g j D k l)
end
abbrev TG:=V->St->Hp->(St->Hp->Prop)->Prop
abbrev jc:=List V->St->Hp->(St->Hp->Prop)->Prop
def PG(X:Cx)(target:fA)(t:TG):Prop :=
 ∀(a:List (cA×ua)) (s:dq) (c:St) (H:Hp) (v:V) (u:bt) (Q:St->Hp->Prop),Inv X a c H s->RelV v u->t v c H Q ->
  gW (hJ X.prog X.w) X.A (aay target X.env u) (λ_ s'=>∃b d,Inv X a b d s'/\Q b d) X.xe s
def pT(X:Cx)(f:List fA)(t:jc):Prop :=
 ∀(a:List (cA×ua)) (s:dq) (c:St) (H:Hp) (vs:List V) (d:List bt) (Q:St->Hp->Prop),Inv X a c H s->aH vs d->t vs c H Q ->
  gW (hJ X.prog X.w) X.A (assignInOrder ((pl f X.env).map (·.2)) d) (λ_ s'=>∃b e,Inv X a b e s'/\Q b e) X.xe s
abbrev yI:=V->V->V->Hp->(Hp->Prop)->Prop
def EH(X:Cx)(t:yI):Prop :=
 ∀(a:List (cA×ua)) (s:dq) (b:St) (H:Hp) (o i v:V) (c d u:bt) (Q:Hp->Prop),Inv X a b H s->RelV o c->RelV i d->RelV v u->t o i v H Q ->
  gW (hJ X.prog X.w) X.A (aef c d u) (λ_ s'=>∃e,Inv X a b e s'/\Q e) X.xe s
section
variable{X:Cx}{pos:q7}
def kX(i:Nat):TG:=λv a H Q=>Q (a.set i<|ac v) H
def yz (a:X.N.Nodup)(hi:X.N[i]?=ac x)(hx:Loc X.env.scope x)(b:X.fn x=bd\/X.env.scope.names.lookup x=some .local:=by first|$(ι ρ)|$(τ ρ)|assumption):PG X (.Name x pos) (kX i):=by$(λpins s σ H v u Q I r h=>afj<|Fc I a hi hx r (λs' c=>⟨_,H,c,h⟩) b)
def Et:jc:=λvs a H Q=>vs=[]/\Q a H
def AW(t:TG)(u:jc):jc:=λvs b H Q=>∃v r,vs=v::r/\t v b H λa c=>u r a c Q
def By:pT X [] Et:=by ext pins s a H vs us Q I r h;let(e,h):=h;$$e;$$$r;$(assignInOrder_nil ⟨a,H,I,h⟩)
theorem xK (d:PG X e t)(f:pT X b u)(g:(pl (e::b) X.env).map (·.2)=aay e X.env::(pl b X.env).map (·.2):=by rfl):pT X (e::b) (AW t u):=by
 ext a s i H vs us Q I r h;let(v,vr,j,h):=h;$$j;cases r with
 |cons r k=>rw[g];$(assignInOrder_cons (aF (d a s i H _ _ _ I r h) λ_ l g=>?_));let(c,m,n,o):=g;$(f a l c m _ _ Q n k o)
def C3(K:e6)(n:Nat)(t:jc):TG:=λv b H Q=>∃a xs,v=.ref a/\bj K H a xs/\xs.length=n/\t xs b H Q
def Ip (j:X.calm=bd)(h:pT X d t)(l:(pl d X.env).length=n:=by rfl)(f:(pl d X.env).findIdx? (·.1)=al:=by rfl):PG X (.Tuple d k pos) (C3 X.K n t):=by ext c s g H v u Q I r hw;let(a,xs,m,p,q,hw):=hw;$$m;$$r;let(its,i,w,hz):=I.tuple p;$(assign_Tuple_tuple (I.ok.hd j) w (by simp[l,<-q,i.length]) f λh' hx=>?_);let x:=I.kept (t':=s.toks) λb o e=>hx b o (gk<|e7 e) e;$(h c _ g H xs _ Q x (i) hw)
def LL(to b:TE)(t:yI):TG:=λv a H Q=>to a H λo c=>b a c λi d=>t o i v d λe=>Q a e
def Jn (f:PE X o to)(hi:PE X i e)(g:EH X t)(j:∀v,aay (.Subscript o i pos) X.env v=(do
   let b <-aap [v] (eval o X.env);let c <-aap [v,b] (eval i X.env)
   ads pos
   aap [v,b,c] (aef b c v)
   release [v,b,c] []):=by ext _;rfl):PG X (.Subscript o i pos) (LL to e t):=by
 ext a s d H v u Q I r h;rw[j];$(cn<|pA (aF (f a s d H _ I h) λb k g=>?_));let(x,l,m,n,p):=g;$(cn<|pA (aF (hi a k d l _ m p) λc q h=>?_));let(y,w,z,A,B):=h;$(cn<|acv<|cn<|pA (aF (g a q d w x y v b c u _ z n A r B) λ_ s3 h=>?_));let(C,D,E):=h;$(wpAny_release ⟨d,C,D,E⟩)
def qQ(te:TE)(g:TG):TS:=λD a H=>te a H λx b=>g x a b D.nx
def D3 (d:PE X e te)(f:PG X a g)(i:abu [a] e pos.line X.env=pure false:=by rfl)(hw:abv [a] e X.env=pure al:=by rfl)(j:(pl [a] X.env).map (·.2)=[aay a X.env]:=by rfl):PS X (.Assign [a] e pos) (qQ te g):=by$(λb s c H D I h=>wpAny_Assign_stores (aF (d b s c H _ I h) λv k g=>?_) i hw);let(x,l,m,n,o):=g;rw[j];$(aF (f b k c l x v _ m n o) λ_ s2 q=>q)
def Ad (c:X.N.Nodup)(hi:X.N[i]?=ac x)(hx:Loc X.env.scope x)(d:PE X e te)(f:um e (ac<|.Name x a) pos.line X.env=pure false:=by rfl)(g:X.fn x=bd\/X.env.scope.names.lookup x=some .local:=by first|$(ι ρ)|$(τ ρ)|assumption) :
  PS X (.Assign [.Name x a] e pos) (qQ te<|kX i):=by
 $(λb s j H D I h=>wpAny_Assign_Name (aF (d b s j H _ I h) λv s1 g=>?_) f);let(y,k,l,m,n):=g;$(Fc l c hi hx m (λs2 o=>{_,k,o,n}) g)
def Kj(c:TT)(tb:TS):TS:=λD a H=>∃W:Nat->St->Hp->Prop,(∃m,W m a H)/\∀m a H,W m a H ->
 c a H λb e=>if b=bd then∃N:St->Hp->Prop,(∀d f,N d f->∃g,g<m/\W g d f)/\tb {D with nx:=N,ct:=N,bk:=D.nx} a e else D.nx a e
theorem RG{c:fA}{body:List zR}{tc:TT}{tb:TS}(q:acf (hJ X.prog X.w) X.A X.env X.xe)(z:PT X c tc)(B:da X body tb):PS X (.While c body [] pos) (Kj tc tb):=by
 ext d s C H D I h;let(W,(E,F),turn):=h;$(wpAny_While<|codeAny_whileLoop (λn s'=>∃k r,Inv X d k r s'/\W n k r) ?_ E ⟨C,H,I,F⟩);ext n G ⟨e,t,J,K⟩;$(aae q (aF (z d G e t _ J<|turn n e t K) λb L h=>?_));let(u,x,i):=h;cases b with
 |true =>
  let(N,y,i):=i;$(aae q (aF (B d L e u _ x i) λf s3 j=>?_));cases f with
  |next=>let(a,g,l,n3):=j;let(m,o,p):=y a g n3;$(⟨m,o,a,g,l,p⟩)
  |cont=>let(a,g,l,n3):=j;let(m,o,p):=y a g n3;$(⟨m,o,a,g,l,p⟩)
  |brk=>$j
  |ret v=>$j
 |false=>$(aa6 ⟨e,u,x,i⟩)
end
structure It where
 go:Nat->Hp->Prop
 lJ:Nat->Hp->V->Hp->Prop
 stop:Nat->Hp->Prop
def jl(X:Cx)(a:List (cA×ua))(H:Hp)(b:cA):Prop :=
 H b=al/\b≠X.env.locals/\b∉X.fs/\(b∈X.ex\/X.di.heap.objs.size<=b)/\(∀x c,X.env.cells.lookup x=ac c->c≠b)/\∀p∈X.pn++a,p.1≠b
theorem Inv.kB{X:Cx}{a:List (cA×ua)}{g:St}{H f:Hp}{s:dq}{b:cA}(I:Inv X a g H s)(d:s.heap.objs.size<=b)(h:f b=al):jl X a f b:=by
 $({h,aby<|hQ I.lt d,I.UE d,τ<|m3 I.sz d,λx c e z=>?_,λp i z=>?_})
 .let(v,q):=I.cell x c e;$(absurd (hQ q.lt (by rw[z];$d))<|p5 _)
 $(absurd (hQ (e7 (I.pin p i).1) (by rw[z];$d))<|p5 _)
structure Turn (P:hE) (w:iR) (K:e6) (tg:fA) (J:It) (fp:List cA) (it:cA) (tn:Nat->k7->Prop):Prop where
 mem:it∈fp
 obj:∀i h,tn i h->∀b∈fp,∃o,h.get? b=ac o/\∀v,o.data≠.cell v
 keep:∀i h h',tn i h->(∀b∈fp,∀o,h.get? b=ac o->h'.get? b=ac o)->tn i h'
 item:∀(X:Cx),X.prog=P->X.w=w->X.K=K->X.calm=bd->∀(i:Nat) (pins:List (cA×ua)) (s:dq) (σ:St) (H:Hp) (E:bt->dq->Prop),Inv X pins σ H s->(∀b∈fp,jl X pins H b)->tn i s.heap->J.go i H ->
  gW (hJ P w) X.A (abQ<|.ref it) (λr s1=>∃u,r=ac u /\
   gW (hJ P w) X.A (abV tg (.ref it) u) (λ_ s2=>∃x H',Inv X pins σ H' s2/\RelV x u/\J.lJ i H x H'/\tn (i+1) s2.heap/\∀b∈fp,H' b=al) E s1) E s
 done:∀(X:Cx),X.prog=P->X.w=w->X.K=K->X.calm=bd->∀(i:Nat) (pins:List (cA×ua)) (s:dq) (σ:St) (H:Hp) (E:bt->dq->Prop),Inv X pins σ H s->(∀b∈fp,jl X pins H b)->tn i s.heap->J.stop i H ->
  gW (hJ P w) X.A (abQ<|.ref it) (λr s1=>r=al/\Inv X pins σ H s1) E s
 self:∀(A:nL) (i:Nat) (s:dq) (Q:bt->dq->Prop) (E:bt->dq->Prop),tn i s.heap->Q (.ref it) s->gW (hJ P w) A (ae5<|.ref it) Q E s
abbrev TI:=St->Hp->(It->Hp->Prop)->Prop
def FV(X:Cx)(a:List (cA×ua))(h:St)(i:fA)(R:It->Hp->Prop)(d:bt)(e:dq):Prop :=
 ∃(it:cA) (f:List cA) (g:Nat->k7->Prop) (J:It) (c:Hp),d=.ref it/\Inv X a h c e/\Turn X.prog X.w X.K i J f it g/\g 0 e.heap/\(∀b∈f,jl X a c b)/\R J c
def PI(X:Cx)(c iter:fA)(d:TI):Prop :=
 ∀(a:List (cA×ua)) (s:dq) (b:St) (H:Hp) (R:It->Hp->Prop),Inv X a b H s->d b H R ->
  gW (hJ X.prog X.w) X.A (eval iter X.env) (λv e=>gW (hJ X.prog X.w) X.A (ae5 v) (FV X a b c R) X.xe e) X.xe s
theorem p9 (c:s.heap.get? it=ac o)(d:o.cls=.type n)(hd:o.data=.fields vs)(e:["enumerate","zip","dict_itemiterator","dict_reverseitemiterator","odict_iterator","itertools.zip_longest","itertools.pairwise"].contains n=bi)(a:Q () s):gW M A (abV b (.ref it) u) Q E s:=by
  cases b<;>first
    |$(fj a)
    | ($$$u<;>first
        |$(fj a)
        | ($(cn (wpAny_load c ?_))
           rw[d,hd];show gW M A (if(["enumerate","zip","dict_itemiterator","dict_reverseitemiterator","odict_iterator","itertools.zip_longest","itertools.pairwise"].contains n&&vs[0]?==ac (aeh _))=bd then _ else _) Q E s;rw[if_neg (by ext h;rw[e,ae2]at h;lk)]
           exact fj a))
def r9(K:e6)(a:cA):It :=
 ⟨λi H=>∃xs x,bV K H a xs/\xs[i]?=ac x,λi H x b=>b=H/\∀xs,bV K H a xs->xs[i]?=ac x,λi H=>∃xs,bV K H a xs/\xs.length<=i⟩
def HF(K:e6)(a:cA):It :=
 ⟨λi H=>∃xs x,bj K H a xs/\xs[i]?=ac x,λi H x b=>b=H/\∀xs,bj K H a xs->xs[i]?=ac x,λi H=>∃xs,bj K H a xs/\xs.length<=i⟩
def su(lo:Int)(n:Nat):It:={λi _=>i<n,λi H x a=>a=H/\x=.int (lo+i),λi _=>n<=i}
def Mo{P:hE}{w:iR}{K:e6}{J:fA}(a it:cA):Turn P w K J (r9 K a) [it] it (λi h=>h.IsListIter it a i) where
 mem:=⋯
 obj:=λi h st b f=>by
  let e:b=it:=by$$$$f
  $$e;let(o,e,c,d):=st;$({o,e,λv z=>by rw[d]at z;lk})
 keep:=λi h h' st k=>st.at λo e=>k it ⋯ o e
 item:=by ext X n hw q F i g s G H E I j st r;subst n hw q;let(xs,x,l,hx):=r;let(its,t,p,L):=I.list l;let(u,M,N):=t.get hx;let(y,A,O,B,C,D):=j it ⋯;$(wpAny_pyNext_list_item st p.isList (by$$$$M) λh' m Q=>?_);let R:=I.turned (t':=s.toks) (λb o f e=>(Q.2 b f).trans e) y A B C D;let(o,e,c,d):=id m;$({u,ρ,p9 e c d ρ {x,H,R,N,{ρ,λys S=>by rw[I.PK S l];$hx},m,λb f=>(j b f).1}})
 done:=by ext X n hw q F i g s G H E I j st r;subst n hw q;let(xs,l,hx):=r;let(its,t,p,L):=I.list l;let(y,A,O,B,C,D):=j it ⋯;let hl:=t.length;$(wpAny_pyNext_list_end (I.ok.hd F) st p.isList (by simp;$_) λh' T=>{ρ,I.turned (λb o f e=>T b o f e) y A B C D})
 self:=λ_ _ _ _ _ st h=>wpAny_pyIter_listiter st h
def IM{P:hE}{w:iR}{K:e6}{F:fA}(a it:cA):Turn P w K F (HF K a) [it] it (λi h=>h.IsTupleIter it a i) where
 mem:=⋯
 obj:=λi h st b f=>by
  let e:b=it:=by$$$$f
  $$e;let(o,e,c,d):=st;$({o,e,by lia})
 keep:=λi h h' st k=>st.at λo e=>k it ⋯ o e
 item:=by ext X n hw q C i g s D H E I j st r;subst n hw q;let(xs,x,l,hx):=r;let(its,t,p,G):=I.tuple l;let(u,J,L):=t.get hx;let(v,y,M,z,A,B):=j it ⋯;$(wpAny_pyNext_tuple_item st (p) (by$$$$J) λh' m N=>?_);let O:=I.turned (t':=s.toks) (λb o f e=>(N.2 b f).trans e) v y z A B;let(o,e,c,d):=id m;$({u,ρ,p9 e c d ρ {x,H,O,L,{ρ,λys Q=>by rw[I.Mz Q l];$hx},m,λb f=>(j b f).1}})
 done:=by ext X n hw q C i g s D H E I j st r;subst n hw q;let(xs,l,hx):=r;let(its,t,p,G):=I.tuple l;let(v,y,M,z,A,B):=j it ⋯;let hl:=t.length;$(wpAny_pyNext_tuple_end (I.ok.hd C) st (p) (by simp;$_) λh' R=>{ρ,I.turned (λb o f e=>R b o f e) v y z A B})
 self:=λ_ _ _ _ _ st h=>wpAny_pyIter_tupleiter st h
def VF{P:hE}{w:iR}{K:e6}{A:fA}(it:cA)(lo:Int)(n:Nat):Turn P w K A (su lo n) [it] it (λi h=>IsRangeIter h it (lo+(i:Nat)*1) ((n:Int)-(i:Nat)) 1) where
 mem:=⋯
 obj:=λi h st b a=>by
  let e:b=it:=by$$$$a
  $$e;$({_,st,λv z=>by let z':Data.fields _=Data.cell v:=z;lk})
 keep:=λi h h' st k=>k it ⋯ _ st
 item:=by ext X g hw j l i c s y H E I d st m;subst g hw j;let(p,q,B,r,u,x):=d it ⋯;let W:=Walks.range (prog:=X.prog) (w:=X.w) (I.ok.hd l) it lo 1 n;$(W.item i s _ _ m st λv h' tk C f D=>?_);let(t,rfl):=C;let F:Inv X c y H {s with heap:=h',toks:=tk}:=I.turned (λb o a e=>D b o (by$$$$a) e) p q r u x;$({_,ρ,p9 f ρ ρ ρ {.int<|lo+i,H,F,⟨t,?_⟩,⟨ρ,ρ⟩,f,λb a=>(d b a).1}});rw[Int.mul_one]
 done:=by ext X g hw j l i c s y H E I d st m;let(p,q,B,r,u,x):=d it ⋯;$(wpAny_pyNext_range_end (I.ok.hd l) st (by let:n<=i:=m;$_) λh' G=>{ρ,I.turned (λb o a e=>G b o a e) p q r u x})
 self:=λ_ _ _ _ _ st h=>wpAny_pyIter_rangeiter st h
section
variable{X:Cx}{tg:fA}
def E4(K:e6)(c:TE):TI:=λd H R=>c d H λx b=>∃a,x=.ref a/\(∃xs,bV K b a xs)/\R (r9 K a) b
def O1(K:e6)(c:TE):TI:=λd H R=>c d H λx b=>∃a,x=.ref a/\(∃xs,bj K b a xs)/\R (HF K a) b
def Gw (i:PE X l g):PI X tg l (E4 X.K g):=by
 $(λf s j H R I h=>aF (i f s j H _ I h) λv c g=>?_);let(x,k,d,m,n):=g;let(a,e,(xs,r),q):=n;$$e;$$m;let(its,rv,p,hz):=d.list r;apply xr p.isList;$({c.heap.objs.size,[c.heap.objs.size],_,_,k,ρ,d.kept λb o e=>eJ _ e,Mo a _,{_,g8 _ ρ,ρ,ρ},λb t=>?_,q});let e:b=c.heap.objs.size:=by$$$$t
 $$e;$(d.kB (eS _)<|d.aj.fresh<|eS _)
def Vu (i:PE X l g):PI X tg l (O1 X.K g):=by
 $(λf s j H R I h=>aF (i f s j H _ I h) λv c g=>?_);let(x,k,d,m,n):=g;let(a,e,(xs,r),q):=n;$$e;$$m;let(its,rv,p,hz):=d.tuple r;apply wpAny_pyIter_tuple<|p;$({c.heap.objs.size,[c.heap.objs.size],_,_,k,ρ,d.kept λb o e=>eJ _ e,IM a _,{_,g8 _ ρ,ρ,ρ},λb t=>?_,q});let e:b=c.heap.objs.size:=by$$$$t
 $$e;$(d.kB (eS _)<|d.aj.fresh<|eS _)
def T5{a:List (cA×ua)}{c:St}{H:Hp}{s:dq}{R:It->Hp->Prop}{E:bt->dq->Prop}{lo hi:Int}{t u v:Tok}{tk:Nat}(I:Inv X a c H s)(f:-(2 ^ 62)<=lo)(g:lo<2 ^ 62)(h:-(2 ^ 62)<=hi)(i:hi<2 ^ 62)
 (q:R (su lo (hi-lo).toNat) H):gW (hJ X.prog X.w) X.A (ae5<|.ref s.heap.objs.size) (FV X a c tg R) E {s with heap:=s.heap.push {cls:=.type "range",data:=.fields #[.int lo t,.int hi u,.int 1 v]},toks:=tk}:=by
 apply wpAny_pyIter_range (IsRange.new ..)<|small_one f g h i;let d:Inv X a c H {s with heap:=s.heap.push {cls:=.type "range",data:=.fields #[.int lo t,.int hi u,.int 1 v]},toks:=tk}:=I.kept λb o e=>eJ _ e
 $(⟨(s.heap.push {cls:=.type "range",data:=.fields #[.int lo t,.int hi u,.int 1 v]}).objs.size,[(s.heap.push {cls:=.type "range",data:=.fields #[.int lo t,.int hi u,.int 1 v]}).objs.size],_,_,H,ρ,
  d.kept λb o e=>eJ _ e,VF _ lo (hi-lo).toNat,?_,λb j=>?_,q⟩)
 .let k:lo+((0:Nat):Int)*1=lo:=⋯;let l:(((hi-lo).toNat:Nat):Int)-((0:Nat):Int)=afH lo hi 1:=by grind [rangeSize_one]
  rw[k,l];$(g8 _ ρ)
 let e:b=(s.heap.push {cls:=.type "range",data:=.fields #[.int lo t,.int hi u,.int 1 v]}).objs.size:=by$$$$j
 $$e;$(d.kB (eS _)<|d.aj.fresh<|eS _)
def ID(a:TA):TI:=λb H R=>a b H λvs c=>∃j:Int,vs=[.int j]/\-(2 ^ 62)<=j/\j<2 ^ 62/\R (su 0 j.toNat) c
theorem UI{a:fA}{d:TA}{p pos:q7}(f:Gl X "range")(g:X.mg "range"=al)(i:PA X [a] d)(k:ma [a] X.env=[(false,eval a X.env)]:=by rfl):PI X tg (.Call (.Name "range" p) [a] [] pos) (ID d):=by
 $(λb s l H R I h=>Call_<|pK I f g boot_range<|H9 (aF (i pos b s l H _ I h) λus s1 e=>?_) k ρ);let(vs,H1,m,n,c):=e;let(j,e,c,o,q):=c;$$e;cases n with
 |cons r u =>
  $$$u;let(t,rfl):=r;$(call_range_1<|T5 m ⋯ ⋯ c o (by$$$$q))
def Ds(f:TI)(g:TG)(tb:TS):TS:=λD a H=>f a H λJ h=>∃W:Nat->Nat->St->Hp->Prop,(∃m,W 0 m a h)/\∀i m a H,W i m a H ->
 (J.stop i H/\D.nx a H)\/(J.go i H/\∃N:St->Hp->Prop,(∀c b,N c b->∃d,d<m/\W (i+1) d c b)/\∀x b,J.lJ i H x b->g x a b λe j=>tb {D with nx:=N,ct:=N,bk:=D.nx} e j)
def qY(a:List cA)(h:k7):List (cA×ua):=a.filterMap λb=>(h.get? b).map λo=>(b,o)
theorem uu{a:List cA}{h:k7}{b:cA}{o:ua}(c:b∈a)(e:h.get? b=ac o):(b,o)∈qY a h:=aa2.2 {b,c,by rw[e];rfl}
theorem KR (c:p∈qY a h):p.1∈a/\h.get? p.1=ac p.2:=by
 let(b,d,e):=aa2.1 c;cases q:h.get? b with
 |none=>rw[q]at e;$(nO e)
 |some o=>rw[q]at e;let f:=Option.some.inj e;$$f;$(⟨d,q⟩)
def Inv.pinned (I:Inv X a f H s)(i:∀b∈c,jl X a H b)(j:∀b∈c,∃o,s.heap.get? b=ac o/\∀v,o.data≠.cell v):Inv X (a++qY c s.heap) f H s :=
 I.Fp λp k=>(el.1 k).elim (λz=>I.pin p<|mA _ z) λz=>by let(g,e):=KR z;let(l,m,n,_):=i p.1 g;let(o,h,d):=j p.1 g;rw[e]at h;$$$$$$h;$(⟨e,l,m,n,d⟩)
def Inv.uE (I:Inv X (a++c) b H s):Inv X a b H s:=I.Fp λp d=>I.pin p<|mA _<|aaP _ d
theorem ET{iter:fA}{body:List zR}{P:TI}{g:TG}{tb:TS}{pos:q7}(B:acf (hJ X.prog X.w) X.A X.env X.xe)(Q:X.calm=bd)(hi:PI X tg iter P)(hg:PG X tg g)(j:da X body tb)
 (hs:∀x,pw iter X.env x=pure x:=by ext _;rfl):PS X (.For tg iter body [] pos) (Ds P g tb):=by
 $(λc s R H D I h=>wpAny_For (aF (hi c s R H _ I h) λv s1 h1=>aF h1 λitv s2 h2=>?_) hs);let(it,C,S,J,H2,e,I2,T,U,V,W,(m0,w0),turn):=h2;$$e;let z:∀{p:Hp},(∀b∈C,p b=al)->∀b∈C,jl X c p b:=λhn b j=>{hn b j,(V b j).2};$(codeAny_forLoop_any (λn s'=>∃i q p,Inv X c q p s'/\S i s'.heap/\(∀b∈C,p b=al)/\W i n q p) ?_ m0 {0,R,H2,I2,U,λb j=>(V b j).1,w0});ext n Y ⟨i,t,G,Z,K,L,w3⟩;let(stop,qn)||(go,N,hN,step):=turn i n t G w3
 .$(aae B (aF (T.done X ρ ρ ρ Q i c Y t G X.xe Z (z L) K stop) λr s4 h=>?_));let(M,I4):=h;$$M;$(aa6 ⟨t,G,I4,qn⟩)
 $(aae B (aF (T.item X ρ ρ ρ Q i c Y t G X.xe Z (z L) K go) λr s4 h=>?_));let(u,M,h4):=h;$$M;$(aae B (aF h4 λ_ s5 ⟨x,H5,I5,r5,y5,E,V7⟩=>?_));$(aae B (aF (hg _ s5 t H5 x u _ (I5.pinned (z V7)<|T.obj _ _ E) r5<|step x H5 y5) λ_ s6 h=>?_));let(V9,H6,I6,q6):=h;$(aae B (aF (j _ s6 V9 H6 _ I6 q6) λf O y=>?_));let again:∀{a:St}{k:Hp},Inv X (c++qY C s5.heap) a k O->N a k->∃m,m<n/\∃i q p,Inv X c q p O/\S i O.heap/\(∀b∈C,p b=al)/\W i m q p:=λ{a k} l F=>by let(m',hm,w7):=hN a k F;$({m',hm,i+1,a,k,l.uE,T.keep _ _ _ E λb j o e=>(l.pin (b,o)<|mA _<|mA _<|uu j e).1,λb j=>?_,w7});let(o,e,d):=T.obj _ _ E b j;$((l.pin (b,o)<|mA _<|mA _<|uu j e).2.1)
 cases f with
 |next=>let(a,k,l,F):=y;$(again l F)
 |cont=>let(a,k,l,F):=y;$(again l F)
 |brk=>let(a,k,l,y):=y;$(⟨a,k,l.uE,y⟩)
 |ret v=>let(x7,a,k,l,r7,y):=y;$(⟨x7,a,k,l.uE,r7,y⟩)
end
def I0{K:e6}{a:cA}{xs:List V}{g:TG}{tb:TS}{D:Ends}{b:St}{H:Hp}(c:Nat->St->Hp->Prop)(n:c 0 b H)(o:∀i b H,i<=xs.length->c i b H->bV K H a xs)
 (r:∀i x b H,xs[i]?=ac x->c i b H->g x b H λf k=>tb {D with nx:=c<|i+1,ct:=c<|i+1,bk:=D.nx} f k)(hd:∀b H,c xs.length b H->D.nx b H) :
  ∃W:Nat->Nat->St->Hp->Prop,(∃m,W 0 m b H)/\∀i m b H,W i m b H ->
   ((r9 K a).stop i H/\D.nx b H)\/((r9 K a).go i H/\∃N:St->Hp->Prop,(∀h d,N h d->∃l,l<m/\W (i+1) l h d)/\∀x d,(r9 K a).lJ i H x d->g x b d λf k=>tb {D with nx:=N,ct:=N,bk:=D.nx} f k):=by
 $({λi m b H=>m=xs.length-i/\i<=xs.length/\c i b H,{xs.length,⋯,rp _,n},?_});ext i m b H ⟨rfl,hi,p⟩;let q:=o i b H hi p;ext(j:i<xs.length)
 .$(τ {{xs,xs[i],q,by simp[j]},c<|i+1,λh d s=>{xs.length-(i+1),∅,rfl,j,s},λx d y=>?_});let(e,y):=y;$$e;$(r i x b _ (y xs q) p)
 let e:i=xs.length:=∅
 $$e;$(ι {{xs,q,eS _},hd b H p})
abbrev R2:=V->V->Hp->VK->Prop
def aV(X:Cx)(f:bt->bt->Sem bt)(r:R2):Prop :=
 ∀(a:List (cA×ua)) (s:dq) (b:St) (H:Hp) (x y:V) (v u:bt) (Q:VK),Inv X a b H s->RelV x v->RelV y u->r x y H Q ->
  gW (hJ X.prog X.w) X.A (f v u) (EP X a b Q) X.xe s
def Ac(X:Cx)(f:bt->Sem bt)(r:V->Hp->VK->Prop):Prop :=
 ∀(a:List (cA×ua)) (s:dq) (b:St) (H:Hp) (x:V) (v:bt) (Q:VK),Inv X a b H s->RelV x v->r x H Q ->
  gW (hJ X.prog X.w) X.A (f v) (EP X a b Q) X.xe s
def bP(X:Cx)(f:bt)(r:List V->Hp->VK->Prop):Prop :=
 ∀(a:List (cA×ua)) (s:dq) (b:St) (H:Hp) (xs:List V) (c:List bt) (Q:VK),Inv X a b H s->aH xs c->r xs H Q ->
  gW (hJ X.prog X.w) X.A (call f c) (EP X a b Q) X.xe s
def Kh(X:Cx)(r:V->Hp->(Bool->Hp->Prop)->Prop):Prop :=
 ∀(a:List (cA×ua)) (s:dq) (b:St) (H:Hp) (x:V) (v:bt) (Q:Bool->Hp->Prop),Inv X a b H s->RelV x v->r x H Q ->
  gW (hJ X.prog X.w) X.A (truthy v) (TP X a b Q) X.xe s
def nY(r:R2)(b tb:TE):TE:=λa H Q=>b a H λx c=>tb a c λy d=>r x y d Q
def Ov(r:V->Hp->VK->Prop)(a:TE):TE:=λb H Q=>a b H λx c=>r x c Q
def rI(C:Int->Int->Prop)(g:Int->Int->V):R2:=λx y H Q=>∃i j,x=.int i/\y=.int j/\C i j/\Q (g i j) H
def hZ(g:Int->Int->V):R2:=λx y H Q=>∃i j,x=.int i/\y=.int j/\Q (g i j) H
def rU(g:Int->V):V->Hp->VK->Prop:=λx H Q=>∃i,x=.int i/\Q (g i) H
section
variable{X:Cx}{a b c:fA}{ta tb tc:TE}{pos:q7}
def yQ(m:PE X a ta)(n:PE X b tb){R:V->V->Hp->Prop}(I:Inv X d e H s)(h:ta e H λx j=>tb e j λy g=>R x y g){Q:bt->dq->Prop}{f:bt->bt->Sem bt}(o:∀v u i x y g,Inv X d e g i->RelV x v->RelV y u->R x y g->gW (hJ X.prog X.w) X.A (f v u) Q X.xe i) :
  gW (hJ X.prog X.w) X.A (eval a X.env) (λv k=>gW (hJ X.prog X.w) X.A (eval b X.env) (λu l=>gW (hJ X.prog X.w) X.A (f v u) Q X.xe l) X.xe k) X.xe s:=by
 $(aF (m d s e H _ I h) λv p g=>?_);let(x,j,q,r,t):=g;$(aF (n d p e j _ q t) λu i h=>?_);let(y,g,z,B,C):=h;$(o v u i x y g z r B C)
def TC (f:Ac X (unaryOp op) r)(g:PE X a ta):PE X (.UnaryOp op a pos) (Ov r ta):=by$(λd s e H Q I h=>UnaryOp_ (aF (g d s e H _ I h) λv i ⟨x,j,k,l,m⟩=>f d i e j x v Q k l m))
def uI{f:bt->bt->Sem bt}{C:Int->Int->Prop}{g:Int->Int->Int}
 (rule:∀(i j:Int) (t u:Tok) (s:dq) (Q:bt->dq->Prop) (E:bt->dq->Prop),C i j->Q (.int (g i j) s.toks) {s with toks:=s.toks+1}->gW (hJ X.prog X.w) X.A (f (.int i t)<|.int j u) Q E s) :
  aV X f (rI C λi j=>.int<|g i j):=by
 ext pins s σ H x y v u Q I rx d h;let(i,j,rfl,rfl,e,q):=h;let(t,rfl):=rx;let(t',rfl):=d;$(rule i j t t' s _ _ e {.int<|g i j,H,I.tok _,⟨_,ρ⟩,q})
def E5{f:bt->bt->Sem bt}{g:Int->Int->Int}
 (rule:∀(i j:Int) (t u:Tok) (s:dq) (Q:bt->dq->Prop) (E:bt->dq->Prop),Q (.int (g i j) s.toks) {s with toks:=s.toks+1}->gW (hJ X.prog X.w) X.A (f (.int i t)<|.int j u) Q E s) :
  aV X f (hZ λi j=>.int<|g i j):=by
 ext pins s σ H x y v u Q I rx d h;let(i,j,rfl,rfl,q):=h;let(t,rfl):=rx;let(t',rfl):=d;$(rule i j t t' s _ _ {.int<|g i j,H,I.tok _,⟨_,ρ⟩,q})
def wb{f:bt->bt->Sem bt}{g:Int->Int->Bool}
 (rule:∀(i j:Int) (t u:Tok) (s:dq) (Q:bt->dq->Prop) (E:bt->dq->Prop),Q (.bool<|g i j) s->gW (hJ X.prog X.w) X.A (f (.int i t)<|.int j u) Q E s) :
  aV X f (hZ λi j=>.bl<|g i j):=by
 ext pins s σ H x y v u Q I rx d h;let(i,j,rfl,rfl,q):=h;let(t,rfl):=rx;let(t',rfl):=d;$(rule i j t t' s _ _ {.bl<|g i j,H,I,ρ,q})
def U0(i j:Int):Prop:=0<=j/\j<=1000000/\i.natAbs<2 ^ 64
def NC:aV X (Q2 .Mod) (rI (λ_ j=>0<j) λi j=>.int<|i%j):=uI λi j _ _ _ _ _ d q=>by$(mod_int' (by lia) (by rw[Int.fmod_eq_emod_of_nonneg i (by lia)];$q))
def M9:aV X (Q2 .Pow) (rI U0 λi j=>.int<|i ^ j.toNat):=uI λ_ _ _ _ _ _ _ d q=>pow_int_small d.1 d.2.1 d.2.2 q
def Ll{f:bt->Sem bt}{g:Int->Int}
 (rule:∀(i:Int) (t:Tok) (s:dq) (Q:bt->dq->Prop) (E:bt->dq->Prop),Q (.int (g i) s.toks) {s with toks:=s.toks+1}->gW (hJ X.prog X.w) X.A (f<|.int i t) Q E s) :
  Ac X f (rU λi=>.int<|g i):=by
 ext pins s σ H x v Q I rx h;let(i,rfl,q):=h;let(t,rfl):=rx;$(rule i t s _ _ {.int<|g i,H,I.tok _,⟨_,ρ⟩,q})
def Ct (I:Inv X d f H s)(q:Q (.bl k) H)(e:k=g):EP X d f Q (.bool g) s:=by$$e;$({.bl k,H,I,ρ,q})
def wJ:aV X (j' .Lt) (hZ λi j=>.bl<|am<|i<j):=wb λ_ _ _ _ _ _ _ q=>lt_int q
def DZ:aV X (j' .Gt) (hZ λi j=>.bl<|am<|j<i):=wb λ_ _ _ _ _ _ _ q=>gt_int q
def J8:aV X (j' .Lt) (λx y H Q=>∃i j,x=.str i/\y=.str j/\Q (.bl<|am<|i.cps.toList<j.cps.toList) H):=by ext pins s σ H x y v u Q I rx d h;let(i,j,rfl,rfl,q):=h;let(t,rfl):=rx;let(t',rfl):=d;$(lt_str<|Ct I q ρ)
def Lr:aV X (j' .In) (λx y H Q=>∃i j,x=.str i/\y=.str j/\Q (.bl<|!(lq j i 0 j.length 1).isEmpty) H):=by ext pins s σ H x y v u Q I rx d h;let(i,j,rfl,rfl,q):=h;let(t,rfl):=rx;let(t',rfl):=d;$(in_str<|Ct I q ρ)
def aV.or (h:aV X f r)(h':aV X f e):aV X f (λx y H Q=>r x y H Q\/e x y H Q):=by
 ext d s g H x y v u Q I rx i q;let q||q:=q
 .$(h d s g H x y v u Q I rx i q)
 $(h' d s g H x y v u Q I rx i q)
def jV(b)(h:op≠.In:=by decide)(h2:op≠.NotIn:=by decide):tm op b=bi:=by
 let d:(op==CmpOp.In)=bi:=by simp!
 let e:(op==CmpOp.NotIn)=bi:=by simp!
 cases b<;>simp[tm,d,e]
def Fq (e:aV X (j' op) r)(f:PE X a ta)(g:PE X b tb)(i:tm op b=bi):PE X (.Compare a [op] [b] pos) (nY r ta tb):=by$(λd s j H Q I h=>wpAny_Compare1 (yQ f g I h λv u k x y l m rx n q=>e d k j l x y v u Q m rx n q) i)
def yj(t:TE):TT:=λd H Q=>t d H λx e=>∃k,x=.bl k/\Q k e
def xg (g:aV X (j' op) r)(i:PE X a ta)(j:PE X b tb)(l:tm op b=bi):PT X (.Compare a [op] [b] pos) (yj<|nY r ta tb):=by
 ext d s f H Q I h;$(wpAny_isTrue_Compare1 (aF (i d s f H _ I h) λv m ⟨x,n,o,p,q⟩=>aF (j d m f n _ o q) λu t ⟨y,w,A,B,C⟩ =>
  aF (g d t f w x y v u _ A p B C) λc s3 ⟨z,D,E,F,k,e,G⟩=>?_) l)
 $$e;$$F;$(z9 ⟨D,E,G⟩)
def yB(r f:R2)(ta tb tc:TE):TE:=λd H Q=>ta d H λx g=>tb d g λy h=>r x y h λz e=>∃k,z=.bl k /\
 (if k=bd then tc d e λi j=>f y i j Q else Q (.bl false) e)
theorem Oj (q:aV X (j' op) r)(l:aV X (j' g) j)(t:PE X a ta)(w:PE X b tb)(A:PE X c tc)(B:abK [op,g] [b,c]=bi:=by with_unfolding_all rfl):PE X (.Compare a [op,g] [b,c] pos) (yB r j ta tb tc):=by
 ext f s i H Q I h;$(Compare_chain (aF (t f s i H _ I h) λv C ⟨x,D,E,F,G⟩=>chain_link (aF (w f C i D _ E G) λu J ⟨y,K,L,m,M⟩ =>
  aF (q f J i K x y v u _ L F m M) λd N ⟨z,n,o,O,k,e,p⟩=>?_)) B)
 $$e;$$O;apply z9;cases k with
 |false=>$(ite_ff {.bl false,n,o,ρ,p})
 |true=>$(ite_tt<|chain_last (aF (A f N i n _ o p) λP R ⟨S,T,U,V,W⟩=>l f R i T y S u P Q U m V W))
theorem ME (q:aV X (j' op) r)(l:aV X (j' g) j)(t:PE X a ta)(w:PE X b tb)(A:PE X c tc)(B:abK [op,g] [b,c]=bi:=by with_unfolding_all rfl):PT X (.Compare a [op,g] [b,c] pos) (yj<|yB r j ta tb tc):=by
 ext f s i H Q I h;$(isTrue_chain (aF (t f s i H _ I h) λv C ⟨x,D,E,F,G⟩=>test_link (aF (w f C i D _ E G) λu J ⟨y,K,L,m,M⟩ =>
  aF (q f J i K x y v u _ L F m M) λd N ⟨z,n,o,O,k,e,p⟩=>?_)) B)
 $$e;$$O;apply z9;cases k with
 |false=>let(k',P,R):=p;$$$P;$(ite_ff ⟨n,o,R⟩)
 |true=>$(ite_tt<|test_last (aF (A f N i n _ o p) λS T ⟨U,V,W,Y,Z⟩=>aF (l f T i V y U u S _ W m Y Z) λd' s5 ⟨z2,H5,I5,r5,k2,e2,q5⟩=>?_));$$e2;$$r5;$(z9 ⟨H5,I5,q5⟩)
def pN(K:e6)(x:V)(H:Hp)(k:Bool):Prop :=
 match x with
 |.aP=>k=bi
 |.bl b=>k=b
 |.int i=>k=(i != 0)
 |.str y=>y.length<=a9/\k=((y.length:Int) != 0)
 |.rJ y=>y.size<=a9/\k=((y.size:Int) != 0)
 |.ref p=>(∃xs,bV K H p xs/\k=!xs.isEmpty)\/(∃xs,bj K H p xs/\k=!xs.isEmpty)\/∃kvs,H p=ac (.dK kvs)/\k=!kvs.isEmpty
 |_=>False
def Ki (r:KV kvs vs):(!vs.isEmpty)=!kvs.isEmpty:=by
 $$$r<;>rfl
def B4 (r:aH xs its):(!its.toArray.isEmpty)=!xs.isEmpty:=by
 $$$r<;>simp
def kF:(a9:Nat)<2 ^ 63:=by rw[vi];decide
theorem we:Kh X (λx H Q=>∃k,pN X.K x H k/\Q k H):=by
 ext pins s σ H x v Q I rx h;let(k,e,q):=h;let hs:=vi;cases x with
 |aP=>$$rx;let d:=e;$$d;$(truthy_none ⟨H,I,q⟩)
 |bl b=>$$rx;let d:=e;$$d;$(z9 ⟨H,I,q⟩)
 |int i=>let(t,rfl):=rx;let d:=e;$$d;$(PySem.P.truthy_int ⟨H,I,q⟩)
 |str y=>let(t,rfl):=rx;obtain⟨l,d⟩:y.length<=a9/\k=((y.length:Int) != 0):=e;$$d;$(PySem.P.truthy_str ∅ {H,I.tok _,q})
 |rJ y=>let(t,rfl):=rx;obtain⟨l,d⟩:y.size<=a9/\k=((y.size:Int) != 0):=e;$$d;$(W.truthy_bytes (by lia) {H,I.tok _,q})
 |ref p =>
  $$rx;let d:=e;let(xs,hx,d)||(xs,hx,d)||(kvs,hx,d):=d
  .$$d;let(its,r,g,j):=I.list hx;let f:=r.length;$(wpAny_truthy_list g.isList (by simp?[fv];$_) {H,I.tok _,by rw[B4 r];$q})
  .$$d;let(its,r,g,j):=I.tuple hx;let f:=r.length;$(truthy_tuple g (by simp?[fv];$_) {H,I.tok _,by rw[B4 r];$q})
  $$d;obtain⟨j,n,vs,r,m⟩:kvs.length<=a9/\(p==Hz)=bi/\∃vs,KV kvs vs/\s.heap.DictOf (cU X.prog X.w) p vs:=I.aj p _ hx;let f:=Paired.length r;$(wpAny_truthy_dict n m ∅ {H,I.tok _,by rw[Ki r];$q})
 |_=>$((e).elim)
def SJ(g:PE X a ta)(i:∀whole,aej a X.env whole=(do let v <-whole;ads a.pos;aap [v] (truthy v))) :
  PT X a (λe H Q=>ta e H λx f=>∃k,pN X.K x f k/\Q k f):=by
 $(λd s e H Q I h=>isTrue_plain (aF (g d s e H _ I h) λv j ⟨x,l,m,n,o⟩=>we d j e l x v Q m n o)<|i _)
def UM:aV X (Q2 .Add) (λx y H Q=>∃i j,x=.str i/\y=.str j/\i.length+j.length<=a9/\Q (.str<|i++j) H):=by ext pins s σ H x y v u Q I rx d h;let(i,j,rfl,rfl,e,q):=h;let(t,rfl):=rx;let(t',rfl):=d;$(add_str (λt' tk=>{.str<|i++j,H,I.tok _,⟨_,ρ⟩,q}) e)
theorem vals1 (r:aH [x] d):∃u,d=[u]/\RelV x u:=by
 cases r with
 |cons e f=>$$$f;$({_,ρ,e})
theorem vals2 (r:aH [x,y] d):∃u e,d=[u,e]/\RelV x u/\RelV y e:=by
 cases r with
 |cons f g =>
  cases g with
  |cons h i=>$$$i;$({_,_,ρ,f,h})
def UO(e:X.calm=bd):bP X (.builtin "max") (λxs H Q=>∃i j,xs=[.int i,.int j]/\Q (.int (if j>i then j else i)) H):=by
 ext pins s σ H xs us Q I r h;let(i,j,rfl,q):=h;let(u,w',rfl,(t,rfl),(t',rfl)):=vals2 r;$(max_two_ints (I.ok.hd e) λh' tk k=>{_,H,I.kept k,?_,q});ext(d:j>i)
 .rw[if_pos d,if_pos d];$({_,ρ})
 rw[if_neg d,if_neg d];$({_,ρ})
def UK(e:X.calm=bd):bP X (.builtin "min") (λxs H Q=>∃i j,xs=[.int i,.int j]/\Q (.int (if j<i then j else i)) H):=by
 ext pins s σ H xs us Q I r h;let(i,j,rfl,q):=h;let(u,w',rfl,(t,rfl),(t',rfl)):=vals2 r;$(min_two_ints (I.ok.hd e) λh' tk k=>{_,H,I.kept k,?_,q});ext(d:j<i)
 .rw[if_pos d,if_pos d];$({_,ρ})
 rw[if_neg d,if_neg d];$({_,ρ})
def RN:bP X (.type "int") (λxs H Q=>(∃i,xs=[.int i]/\Q (.int i) H)\/∃k,xs=[.bl k]/\Q (.int (if k then 1 else 0)) H):=by
 ext pins s σ H xs us Q I r h;let(i,rfl,q)||(k,rfl,q):=h
 .let(u,rfl,t,rfl):=vals1 r;$(call_int_int {.int i,H,I,{_,ρ},q})
 let(u,rfl,d):=vals1 r;$$d;$(call_int_bool {.int (if k then 1 else 0),H,I.tok _,{_,ρ},q})
theorem J9:bP X (.type "str") (λxs H Q=>∃i,xs=[.int i]/\i.natAbs.log2<1920/\Q (.str<|toString i) H):=by ext pins s σ H xs us Q I r h;let(i,rfl,d,q):=h;let(u,rfl,t,rfl):=vals1 r;$(PySem.P.str_of_int d {.str _,H,I.tok _,{_,ρ},q})
end
theorem j8.some_of (r:j8 (ac v) o):∃u,o=ac u/\RelV v u:=by
 cases o with
 |none=>$((r).elim)
 |some u=>$(⟨u,ρ,r⟩)
structure bS (k:Nat) (A:nL):Prop where
 hd:A.handled=al
 dp:A.depth+3*k+5<recursionLimit
 un:A.units+16*k+200<r0
def bS.mono (r:bS k A)(h:j<=k):bS j A:={r.hd,by let:=r.dp;$_,by let:=r.un;$_}
def bS.deeper (r:bS (k+1) A)(env:Env):bS k (A.deeper env) :=
 {r.hd,by let:=r.dp;show A.depth+1+3*k+5<_;$_,by let:=r.un;show A.units+3+16*k+200<_;$_}
def bS.depth (r:bS k A):A.depth<recursionLimit:=by let:=r.dp;$_
def Sw:TA:=λ_ H Q=>Q [] H
def Q4(b:TE)(tr:TA):TA:=λa H Q=>b a H λx c=>tr a c λxs d=>Q (x::xs) d
section
variable{X:Cx}{e:fA}{es:List fA}{te:TE}{t:TA}{pos:q7}
def pS:PA X [] Sw:=λ_ _ _ _ H Q I h=>Calls.spliced_nil {[],H,I,.nil,h}
def kI(c:PE X e te)(d:PA X es t)(f:bI X e es:=by rfl):PA X (e::es) (Q4 te t):=by ext pos a s b H Q I h;rw[f];$(Calls.spliced_cons (aF (c a s b H _ I h) λu g f=>?_));let(x,i,j,k,l):=f;$(aF (d pos a g b i _ j l) λus s2 ⟨xs,m,n,o,p⟩=>{x::xs,m,n,.cons k o,p})
def Ph(t:TA):TE:=λb H Q=>t b H λxs a=>xs.length<=a9/\∀p,a p=al->Q (.ref p) (upd a p<|.U xs)
def LD(t:TA):TE:=λb H Q=>t b H λxs a=>xs.length<=a9/\∀p,a p=al->Q (.ref p) (upd a p<|.L xs)
def Hh{g}(h:PA X es t):PE X (.Tuple es g pos) (Ph t):=by$(λc s i H Q I j=>wpAny_Tuple_spliced (aF (h pos c s i H _ I j) λk a ⟨xs,d,f,r,z,q⟩=>{by rw[<-r.length];$z,?_}));$({.ref a.heap.objs.size,upd d a.heap.objs.size<|.U xs,f.laid (λb u e=>eJ _ e) (eS _) ?_,ρ,q _<|f.aj.fresh<|eS _});$({z,k,r,{_,g8 _ ρ,ρ,_,ρ}})
def MF(h:PA X es t):PE X (.List es pos) (LD t):=by$(λc s g H Q I i=>wpAny_List_spliced (aF (h pos c s g H _ I i) λj a ⟨xs,d,f,r,z,q⟩=>{by rw[<-r.length];$z,?_}));$({.ref a.heap.objs.size,upd d a.heap.objs.size<|.L xs,f.laid (λb u e=>eJ _ e) (eS _) ?_,ρ,q _<|f.aj.fresh<|eS _});$({z,j,0,r,g8 _ ρ})
end
abbrev Sp:=List V->Hp->VK->XK->Prop
abbrev gU:=List Env->Hp->dq->XK->bt->dq->Prop
structure uH (P:hE) (w:iR) (K:e6) (mg:ew->Option bt) (base:k7) (A:nL) (outer:List Env) (s:dq) (H:Hp):Prop where
 frames:A.frames=ac outer
 mod:Mod K mg base
 bs:∀b o,base.get? b=ac o->s.heap.get? b=ac o/\H b=al
 jI:base.objs.size<=s.heap.objs.size
 gH:s.heap.FunFrames base outer
 lU:∀b∈iX outer,H b=al
 aj:ck P w H s.heap
 bare:abT s.gens
def CE(outer:List Env)(P:hE)(w:iR)(H:Hp)(s:dq)(Q:VK)(u:bt)(s':dq):Prop :=
 ∃v a,s'.os=s.os/\abT s'.gens/\Un (iX outer) [] H a s.heap s'.heap/\ck P w a s'.heap/\RelV v u/\Q v a
def CR(CX:gU)(outer:List Env)(P:hE)(w:iR)(H:Hp)(s:dq)(Q:VK)(E:XK)(r:aen)(s':dq):Prop :=
 match r with
 |.ok (.ret u)=>CE outer P w H s Q u s'
 |.ok _=>False
 |.error e=>CX outer H s E e s'
structure aS (P:hE) (w:iR) (K:e6) (mg:ew->Option bt) (base:k7) (CX:gU) (k:Nat) (f:cA) (fd:gi) (ps:List ew) (sp:Sp):Prop where
 len:∀vs H Q E,sp vs H Q E->vs.length=ps.length
 run:∀(A:nL) (outer:List Env) (s:dq) (H:Hp) (args:Args) (us:List bt) (vs:List V) (Q:VK) (E:XK),bS k A->uH P w K mg base A outer s H->adu s fd args (ps.zip us)->aH vs us->sp vs H Q E ->
  abo (hJ P w) A (.call (.ref f) args) (CR CX outer P w H s Q E) s
def aS.imp{P:hE}{w:iR}{K:e6}{mg:ew->Option bt}{base:k7}{CX:gU}{k:Nat}{f:cA}{b:gi}{ps:List ew}{sp a:Sp}(F:aS P w K mg base CX k f b ps sp)
 (h:∀vs H Q E,a vs H Q E->sp vs H Q E):aS P w K mg base CX k f b ps a :=
 {λvs H Q E q=>F.len vs H Q E<|h _ _ _ _ q,λA outer s H args c vs Q E d e g i j=>F.run A outer s H args c vs Q E d e g i<|h _ _ _ _ j}
section
variable{X:Cx}{pins:List (cA×ua)}{σ:St}{H:Hp}{s s':dq}
def Inv.RL(I:Inv X pins σ H s):uH X.prog X.w X.K X.mg X.base X.A X.stack s H :=
 {I.ok.frames,I.ok.mod,I.bs,m3 I.ok.jI I.sz,I.stack,I.CY,I.aj,I.bare}
def Inv.after (I:Inv X pins σ H s)(h:CE X.stack X.prog X.w H s Q u s'):EP X pins σ Q u s':=by let(v,c,os,bare,un,aj,r,q):=h;let(hh,g,d,t,a):=s';obtain rfl:a=s.os:=os;$({v,c,I.call un aj bare (λb z=>absurd z ⋯),r,q})
end
def TY(sp:Sp)(a:List V)(E:XK)(t:TA):TE:=λb H Q=>t b H λvs c=>sp (vs++a) c Q E
def Binds(K:e6)(b:gi)(ps:List ew)(ds:List bt):Prop :=
 ∀(s:dq) (a:List bt),K.In s.heap->(a++ds).length=ps.length->adu s b {a,[]} (ps.zip<|a++ds)
def Binds.all{K:e6}{b:gi}{ps:List ew}(h:∀a:List bt,a.length=ps.length->af6 b {a,[]}=pure (ps.zip a)):Binds K b ps []:=λs a _ c=>by rw[z6]at c ⊢;$(.of_eq<|h a c)
def wy(CX:gU)(X:Cx)(E:XK):Prop:=∀(a:List (cA×ua)) (b:St) (H:Hp) (s:dq) (e:bt) (s':dq),Inv X a b H s->CX X.stack H s E e s'->X.xe e s'
section
variable{X:Cx}{CX:gU}{k:Nat}{f C:cA}{fd:gi}{ps:List ew}{sp:Sp}{dvs:List V}{ds:List bt}{E:XK}{x m:ew}{p pos apos:q7}{e o:fA}{es:List fA}{ta:TE}{t:TA}
theorem Ua (F:aS X.prog X.w X.K X.mg X.base CX k f fd ps sp)(i:bS k X.A)(j:Binds X.K fd ps ds)(hd:aH dvs ds)(hx:wy CX X E)(I:Inv X a d H s)(r:aH vs b)(h:sp (vs++dvs) H Q E):gW (hJ X.prog X.w) X.A (call (.ref f) b) (EP X a d Q) X.xe s:=by
 let g:=r.append hd;let l:(b++ds).length=ps.length:=by rw[<-g.length];$(F.len _ _ _ _ h)
 $(wpAny_call (abR (F.run X.A X.stack s H {b,[]} (b++ds) (vs++dvs) Q E i I.RL (j s b I.gI l) g h) λr s' c=>?_));cases r with
 |error e=>$(hx a d H s e s' I c)
 |ok n =>
  cases n with
  |ret u=>$(I.after c)
  |next=>$(KX c)
  |brk=>$(KX c)
  |cont=>$(KX c)
def Ht(F:aS X.prog X.w X.K X.mg X.base CX k f fd ps sp)(g:bS k X.A)(i:Gl X x)(j:X.mg x=ac (.ref f))(l:acB X.K (.ref f)=bd)(n:Binds X.K fd ps ds)(hd:aH dvs ds)(hx:wy CX X E)
 (u:PA X (e::es) t)(b:bM x:=by decide)(v:bI X e es:=by rfl)(c:(YP pos<|ma es X.env).any (·.1)=bi:=by rfl) :
  PE X (.Call (.Name x p) (e::es) [] pos) (TY sp dvs E t):=by
 $(λa s y H Q I h=>acA<|CS I i j ?_ b);$(W.callWith_K I.ok.mod.vE l (aF (u pos a s y H _ I h) λus s1 ⟨vs,H1,d,r,q⟩=>{d.gI,?_}) v c);$(Ua F g n hd hx d r q)
end
structure bq (N P:List ew) (sc:Rr):Prop where
 kind:sc.kind=.function
 co:sc.isCoroutine=bi
 gen:sc.isGenerator=bi
 nd:N.Nodup
 pre:N.take P.length=P
 par:∀x∈P,sc.names.lookup x=some .local\/sc.names.lookup x=some .cell
 P5:∀y∈sc.names,y.2≠.free
theorem Dt{aa9:ew->Option ab'}:∀{binds:List (ew×bt)}{m:ew->Option bt},(∀v,(x,v)∉binds)->ad6 aa9 binds m x=m x
 |[],_,_=>rfl
 | (n,v)::r,m,h=>by
  dsimp[ad6];rw[Dt λw hw=>h w<|eH _ hw];split
  .let:x≠n:=by ext rfl;$(h v eR)
   simp[this]
  rfl
theorem Ey{aa9:ew->Option ab'}:∀{binds:List (ew×bt)}{m:ew->Option bt},(∀v,(x,v)∉binds)->ad7 aa9 binds m x=m x
 |[],_,_=>rfl
 | (n,v)::r,m,h=>by
  dsimp[ad7];rw[Ey λw hw=>h w<|eH _ hw];split
  .rfl
  let:x≠n:=by ext rfl;$(h v eR)
  simp[this]
theorem Dj{aa9:ew->Option ab'}:∀{P:List ew}{vs:List bt}{i:Nat}{m:ew->Option bt},P.Nodup->P[i]?=ac x->vs[i]?=ac v->aa9 x=some .local ->
  ad6 aa9 (P.zip vs) m x=ac v
 |[],_,_,_,_,h,_,_=>by simp at h
 |_::_,[],_,_,_,_,h,_=>by simp at h
 |p::P,w::vs,0,m,nd,a,b,c=>by simp at a b;$$a;$$b;show ad6 aa9 ((p,w)::P.zip vs) m p=_;dsimp[ad6];rw[Dt λv d=>(iN.1 nd).1 (abA d).1,if_pos c];simp
 |p::P,w::vs,i+1,m,nd,a,b,c=>by$$(ad6);$(Dj (iN.1 nd).2 (a) (b) c)
theorem GG{aa9:ew->Option ab'}:∀{P:List ew}{vs:List bt}{i:Nat}{m:ew->Option bt},P.Nodup->P[i]?=ac x->vs[i]?=ac v->aa9 x≠some .local ->
  ad7 aa9 (P.zip vs) m x=ac v
 |[],_,_,_,_,h,_,_=>by simp at h
 |_::_,[],_,_,_,_,h,_=>by simp at h
 |p::P,w::vs,0,m,nd,a,b,c=>by simp at a b;$$a;$$b;show ad7 aa9 ((p,w)::P.zip vs) m p=_;dsimp[ad7];rw[Ey λv d=>(iN.1 nd).1 (abA d).1,if_neg c];simp
 |p::P,w::vs,i+1,m,nd,a,b,c=>by$$(ad7);$(GG (iN.1 nd).2 (a) (b) c)
def start(N:List ew)(vs:List V):St:=vs.map ac++nB (N.length-vs.length) al
def jq(CX:gU)(P:hE)(w:iR)(K:e6)(mg:ew->Option bt)(base:k7)(N:List ew)(a:ew)(scope:Rr)(f:cA)(b:bt)(A:nL)(outer:List Env)(s:dq)(H:Hp)(E:XK):Cx where
 prog:=P
 w:=w
 K:=K
 mg:=mg
 base:=base
 A:=A.deeper<|HU a scope s.heap.objs.size f b
 N:=N
 di:=s
 fK:=H
 env:=HU a scope s.heap.objs.size f b
 outer:=outer
 stack:=HU a scope s.heap.objs.size f b::outer
 ex:=[]
 calm:=true
 fn:=λ_=>true
 pn:=[]
 xe:=λe s'=>gW (hJ P w) (A.deeper<|HU a scope s.heap.objs.size f b) (leaving (HU a scope s.heap.objs.size f b) e) (λ_ c=>CX outer H s E e c) (λd c=>CX outer H s E d c) s'
def Em{a:Rr}{n:Nat}{x:ew}(h:a.names.lookup x=some .cell):∃c,(afA n a.names []).lookup x=ac c:=by$(abb.1<|ae8 a.names n []<|ι h)
def OT{CX:gU}{P:hE}{w:iR}{K:e6}{mg:ew->Option bt}{base:k7}{N ps:List ew}{d:ew}{scope:Rr}{f:cA}{m:bt}{A:nL}{outer:List Env}{s D:dq}{H:Hp}{E:XK}{B:List bt}{vs:List V}
 (S:bq N ps scope)(hd:A.handled=al)(a:uH P w K mg base A outer s H)(hl:vs.length=ps.length)(r:aH vs B)
 (x:InCallC s s.heap.objs.size (ad6 (HU d scope s.heap.objs.size f m).kindOf (ps.zip B) λ_=>al) (afA (s.heap.objs.size+1) scope.names []) (ad7 (HU d scope s.heap.objs.size f m).kindOf (ps.zip B) λ_=>al) D) :
  Inv (jq CX P w K mg base N d scope f m A outer s H E) [] (start N vs) H D:=by
 let hpl:ps.length<=N.length:=by let:=congrArg List.length S.pre;grind
 let(o,tk,rfl,F):=x.done;let j:∀b:cA,b∉(jq CX P w K mg base N d scope f m A outer s H E).ex:=λb z=>absurd (show b∈([]:List cA)from z) ⋯
 $(⟨{a.mod,S.kind,ρ,ρ,eS _,λy z c o C=>?_,λy g=>?_,λy c _ h=>?_,λ_=>hd,Around.frames_deeper a.frames,τ ⟨ρ,ρ⟩,λb z=>absurd z<|j b,a.bs,a.jI,λb _ _=>j b,λb z=>absurd z<|j b,a.gH,a.lU},
  ρ,a.bare,Un.kept F,{_,x.toInCall.ns,λi y v o C h3=>?_},λy c h=>{_,x.cell y c h},a.aj.fresh<|eS _,λy c h=>?_,λp l=>absurd (show p∈([]:List (cA×ua))from l) ⋯,a.aj.kept F,?_⟩)
 .$(name_of_addr x.apart (aak o)<|aak C)
 .let g:=g;let g||g:=g
  .$(Em g)
  $(absurd ρ<|S.P5 _<|aak g)
 .$(acu<|x.above y c<|aak h)
 .let hi:i<vs.length:=by
   unfold start at C;ext(hi:i<vs.length)
   .$hi
   simp![hO,aar]
  let I:vs[i]?=ac v:=by simp![start,hH]
  let(u,G,J):=r.get I;let l:ps[i]?=ac y:=by rwa[<-S.pre,adh ∅]
  let t:ps.Nodup:=by rw[<-S.pre];$(S.nd.sublist<|aev _ _)
  $({u,J,?_});let k||k:=S.par y (eK l)
  .$(ι {k,Dj t l G k})
  let(c,e):=Em k;$(τ {ι k,c,e,?_});let q:=x.cell y c e;rw[GG t l G (by show scope.names.lookup y≠_;rw[k];decide)]at q;$q
 .$(a.aj.fresh<|acu<|x.above y c<|aak h)
 $$(start);show _=N.length;simp!
theorem J1{CX:gU}{P:hE}{w:iR}{K:e6}{mg:ew->Option bt}{base:k7}{k:Nat}{f:cA}{name a:ew}{c:Arguments}{body:List zR}{scope:Rr}{D kV m pm cdv ct T:bt}{F U:Option cA}
 {G:Array (Option bt)}{N ps:List ew}{sp:Sp}(lk:K.lookup f=ac {T,U,.func<|adk name a c body scope D kV m pm F cdv ct,G})(L:afC K cdv a=bd)(S:bq N ps scope)
 (len:∀vs H Q E,sp vs H Q E->vs.length=ps.length)
 (j:∀(A:nL) (outer:List Env) (s:dq) (H:Hp) (vs:List V) (Q:VK) (E:XK),bS k (A.deeper<|HU a scope s.heap.objs.size f cdv)->sp vs H Q E ->
   ∃t,da (jq CX P w K mg base N a scope f cdv A outer s H E) body t/\t {nx:=λ_ d=>Q .aP d,rt:=Q} (start N vs) H) :
  aS P w K mg base CX (k+1) f (adk name a c body scope D kV m pm F cdv ct) ps sp:=by
 $({len,λA outer s H args X vs Q E B i Y r p=>?_});let Z:=len _ _ _ _ p;let M:=i.mod.vE.keeps λb o e=>(i.bs b o e).1;let O:=i.mod.nolimit.keeps λb o e=>(i.bs b o e).1;let l:∀y∈ps.zip X,scope.names.lookup y.1=some .local\/(scope.names.lookup y.1=some .cell/\((afA (s.heap.objs.size+1) scope.names []).lookup y.1).isSome=bd):=λ⟨n,v⟩ hy=>by
  let q||q:=S.par n (abA hy).1
  .$(ι q)
  $(τ {q,ae8 _ _ _<|ι q})
 $(codeAny_call_function B.depth (M _ _ lk) ρ S.co S.gen ρ (W.codeRec_of M L)<|Y _ _ _ _ ?_);$(wpAny_newFunctionEnv_cells S.kind l λenv he R x=>?_);$$he;$({O.keeps x.toInCall.keep,codeAny_func ?_});let(t,ht,hq):=j A outer s H vs Q E (B.deeper _) p;let I:Inv (jq CX P w K mg base N a scope f cdv A outer s H E) [] (start N vs) H R:=OT S B.hd i Z r x;$(za (ht [] R (start N vs) H _ I hq) (λfl s' h=>?_) λe s' h=>h);let z:∀{g:St}{d:Hp}{v:V}{u:bt},Inv (jq CX P w K mg base N a scope f cdv A outer s H E) [] g d s'->RelV v u->Q v d->CE outer P w H s Q u s' :=
  λ{g d v u} J C q=>⟨v,d,J.os,J.bare,J.base,J.aj,C,q⟩
 cases fl with
 |ret u=>let(v,g,d,J,C,q):=h;$(z J C q)
 |next=>let(g,d,J,q):=h;$(z (v:=V.aP) J ρ q)
 |brk=>let(_,_,_,q):=h;$(KX q)
 |cont=>let(_,_,_,q):=h;$(KX q)
section
variable{X:Cx}{x:ew}{p pos:q7}{e:fA}{es:List fA}{t:TA}{id T:String}{r:List V->Hp->VK->Prop}
def zl(r:List V->Hp->VK->Prop)(t:TA):TE:=λa H Q=>t a H λvs b=>r vs b Q
def vJ(f:bP X (.builtin id) r)(g:Gl X x)(i:X.mg x=al)(j:C' x=ac (.builtin id))(k:PA X (e::es) t)(l:x≠"__name__":=by decide)(b:bM x:=by decide)
 (m:bI X e es:=by rfl)(c:(YP pos<|ma es X.env).any (·.1)=bi:=by rfl):PE X (.Call (.Name x p) (e::es) [] pos) (zl r t):=by
 $(λa s d H Q I h=>acA<|pK I g i j ?_ l b);$(af0 (aF (k pos a s d H _ I h) λn o ⟨vs,q,u,v,w⟩=>f a o d q vs n Q u v w) m c)
def zh(f:bP X (.type T) r)(g:Gl X x)(i:X.mg x=al)(j:C' x=ac (.type T))(k:PA X (e::es) t)(l:x≠"__name__":=by decide)(b:bM x:=by decide)
 (m:bI X e es:=by rfl)(c:(YP pos<|ma es X.env).any (·.1)=bi:=by rfl):PE X (.Call (.Name x p) (e::es) [] pos) (zl r t):=by
 $(λa s d H Q I h=>acA<|pK I g i j ?_ l b);$(H9 (aF (k pos a s d H _ I h) λn o ⟨vs,q,u,v,w⟩=>f a o d q vs n Q u v w) m c)
end
section
open PySem.SeqAt
open PySem.AutoSeq1 (wpAny_loadPart')
open PySem.MeetsSeq PySem.MeetsSeq2 PySem.MeetsSeq3
end
section
variable{prog:hE}{w:iR}{A:nL}{E:bt->dq->Prop}{s:dq}{X:Cx}{e:fA}{te:TE}{lo hi:Option fA}{tl th:TO}{pos p2:q7}
def JQ (m:aaM s.heap t vs.toArray)(o:aaM s.heap b a.toArray)(j:vs≠[])(p:a=[]->Q (.ref t) s)(q:a≠[]->Q (.ref s.heap.objs.size) {s with heap:=s.heap.push {cls:=.type "tuple",data:=.seq (vs++a).toArray} })(hsz:vs.length+a.length<=a9):gW (hJ prog w) A (Q2 .Add (.ref t)<|.ref b) Q E s:=by
 let((cls,dd,data,k),d,l,n,hd):=id m;let((cls2,f,data2,g),c,h,n2,i):=id o;simp? at l hd h i;subst l hd h i;let e:vs.toArray++a.toArray=(vs++a).toArray:=⋯;ext(hw:a=[])
 .$(aek {_,d,ρ} {_,c,ρ} afz agg ac6 acW (acR _ _)
   (tuple_addW1 t b vs.toArray a.toArray n n2 dd f k g (by$$$$j) (by simp[hw])) {d,c,p hw})
 $(aek {_,d,ρ} {_,c,ρ} afz agg ac6 acW (acR _ _)
  (tuple_addW2 t b vs.toArray a.toArray n n2 dd f k g (by$$$$j) (by$$$$hw) ∅) {d,c,?_})
 rw[e];$(q hw)
def bz(n d:Nat):Option Int->Nat
 |none=>d
 |some v=>if v<0 then(v+(n:Int)).toNat else min v.toNat n
def E3(n d):bz n d al=d:=ρ
def GZ(n d k:Nat):bz n d (ac (k:Int))=min k n:=by rfl
theorem KY(n d)(hd:d<=n)(o):bz n d o<=n:=by
 cases o with
 |none=>$hd
 |some v=>show(if v<0 then(v+(n:Int)).toNat else min v.toNat n)<=n;ext(a:v<0);lia;rw[if_neg a];$(Nat.min_le_right _ _)
def Fn(v:Int)(n d:Nat):(if v<0 then max (v+(n:Int)) 0 else min v (n:Int))=((bz n d (ac v):Nat):Int):=by show(if v<0 then max (v+(n:Int)) 0 else min v (n:Int))=(((if v<0 then(v+(n:Int)).toNat else min v.toNat n):Nat):Int);grind
theorem Ro(lo hi:Option Int)(n:Nat):aaK lo hi 1 (n:Int)=(((bz n 0 lo:Nat):Int),((bz n n hi:Nat):Int)):=by
 apply Prod.ext
 .cases lo with
  |none=>rfl
  |some v=>$(Fn v n 0)
 cases hi with
 |none=>rfl
 |some v=>$(Fn v n n)
def Ut(i j:Nat):Sq (i:Int) (j:Int) 1=j-i:=by delta Sq;grind
theorem HH (p:acD v o)(h:Q o s):gW (hJ prog w) A (afF v) Q E s:=by
 cases p with
 |none=>$(agb h)
 |int i t=>$(slicePart_int h)
def LU{d:cA}{vl c:bt}{lo hi:Option Int}{n:Nat}{Q:Int×Int×Nat->dq->Prop}(f:s.heap.IsSliceOf d vl c .none)(g:acD vl lo)(i:acD c hi)
 (h:Q (((bz n 0 lo:Nat):Int),1,bz n n hi-bz n 0 lo) s):gW (hJ prog w) A (abZ (.ref d)<|pure (n:Int)) Q E s:=by
 let(os,a,hcs,b):=id f;$(cn<|cn<|aeJ a b (x:=vl) ρ<|cn<|aeJ a b (x:=c) ρ<|cn<|aeJ a b ρ<|fj ?_);$(cn<|agb ?_);show gW _ _ (if((1:Int)==0)=bd then _ else _) _ _ s;$(cn<|HH g<|cn<|HH i<|cn<|fj ?_);show gW _ _ (match aaK lo hi 1 (n:Int)with|(lo,hi)=>pure (lo,(1:Int),Sq lo hi 1)) _ _ s;rw[Ro lo hi n];show gW _ _ (pure (((bz n 0 lo:Nat):Int),(1:Int),Sq ((bz n 0 lo:Nat):Int) ((bz n n hi:Nat):Int) 1)) _ _ s;rw[Ut];$(fj h)
def J6(xs:Array bt)(i k:Nat):((lb k).filterMap λ(m:Nat)=>xs[((i:Int)+(m:Int)*1).toNat]?).toArray=((xs.toList.drop i).take k).toArray:=by
 let e:(λ(m:Nat)=>xs[((i:Int)+(m:Int)*1).toNat]?)=λm=>xs[i+m]?:=by
  funext m;let:((i:Int)+(m:Int)*1).toNat=i+m:=∅
  rw[this]
 rw[e];let:=pick_run xs i k;let a:((λx=>xs[x]?) ∘ λx=>i+x)=λm=>xs[i+m]?:=ρ;simp!
theorem NP{t c:cA}{items:Array bt}{vl d:bt}{lo hi:Option Int}{Q:bt->dq->Prop}(b:aaM s.heap t items)(f:s.heap.IsSliceOf c vl d .none)(l:acD vl lo)(n:acD d hi)
 (hw:¬(bz items.size 0 lo=0/\bz items.size items.size hi=items.size))
 (h:Q (.ref s.heap.objs.size) {s with heap:=s.heap.push {cls:=.type "tuple",data:=.seq ((items.toList.drop<|bz items.size 0 lo).take (bz items.size items.size hi-bz items.size 0 lo)).toArray} })
 (hsz:items.size<=a9):gW (hJ prog w) A (acd (.ref t)<|.ref c) Q E s:=by
 let a:sizeOk (.seq ((items.toList.drop<|bz items.size 0 lo).take (bz items.size items.size hi-bz items.size 0 lo)).toArray):=by show((items.toList.drop<|bz items.size 0 lo).take (bz items.size items.size hi-bz items.size 0 lo)).toArray.size<=a9;simp;$_
 let(os,g,i,hds):=id f;let j:s.TypeIs (.ref c) "slice":=⟨os,g,i⟩;$$(acd);try with_reducible $(pA ?_)
 first|$(cn (fj ?_))|skip
 $(cn<|wpAny_sequenceKey b.typeIs ⋯ ?_)
 $(cn (aaC b.typeIs I1
  (ub I1 b.typeIs entry_tuple_getitem ?_<|args_tuple_getitem _ _)))
 show gW _ _ (afE (.ref t) >>= _) _ _ s;$(cn<|tupleItemsOf_ b ?_);$(cn<|aed j ?_);rw[if_pos ⋯];$(cn<|LU f l n ?_);let k:¬((((bz items.size 0 lo:Nat):Int)==0&&(1:Int)==1&&(bz items.size items.size hi-bz items.size 0 lo)==items.size)=bd):=by simp!
 show gW _ _ (if(((bz items.size 0 lo:Nat):Int)==0&&(1:Int)==1&&(bz items.size items.size hi-bz items.size 0 lo)==items.size)=bd then _ else _) _ _ s;rw[if_neg k,J6]
 first
  |$(cn (yv (fj ⟨_,ρ,fj h⟩) a))
  |$(cn (yv (cn<|fj<|fj ⟨_,ρ,fj h⟩) a))
  |$(cn (cn<|yv (fj<|fj ⟨_,ρ,fj h⟩) a))
  |$(cn<|cn<|yv (fj ⟨_,ρ,fj h⟩) a)
abbrev TO:=St->Hp->(Option Int->Hp->Prop)->Prop
def PO(X:Cx)(e:Option fA)(t:TO):Prop :=
 ∀(a:List (cA×ua)) (s:dq) (b:St) (H:Hp) (Q:Option Int->Hp->Prop),Inv X a b H s->t b H Q ->
  gW (hJ X.prog X.w) X.A (evalPart e X.env) (λu s'=>∃o c,Inv X a b c s'/\acD u o/\Q o c) X.xe s
def N8:TO:=λ_ H Q=>Q al H
def Kr(t:TE):TO:=λa H Q=>t a H λx b=>∃i,x=.int i/\Q (ac i) b
def Ql:PO X al N8:=by$(λpins s σ H Q I h=>fj {al,H,I,.none,h})
def QG(h:PE X e te):PO X (ac e) (Kr te):=by$(λa s b H Q I hw=>aF (h a s b H _ I hw) λu s1 e=>?_);let(x,c,d,f,g):=e;let(i,rfl,q):=g;let(t,rfl):=f;$({ac i,c,d,.int i t,q})
def kj(X:Cx)(r:V->Option Int->Option Int->Hp->VK->Prop):Prop :=
 ∀(a:List (cA×ua)) (s:dq) (b:St) (H:Hp) (x:V) (v vl c:bt) (lo hi:Option Int) (d:cA) (Q:VK),Inv X a b H s->RelV x v->s.heap.IsSliceOf d vl c .none->acD vl lo->acD c hi->r x lo hi H Q ->
  ∃T id,adz (.type T) "__getitem__"=pure (ac<|.builtin id)/\s.TypeIs v T/\gW (hJ X.prog X.w) X.A (acd v<|.ref d) (EP X a b Q) X.xe s
def kj.or (h:kj X r)(h':kj X b):kj X (λx lo hi H Q=>r x lo hi H Q\/b x lo hi H Q):=by
 ext a s c H x v vl d lo hi f Q I rx g i j q;let q||q:=q
 .$(h a s c H x v vl d lo hi f Q I rx g i j q)
 $(h' a s c H x v vl d lo hi f Q I rx g i j q)
def Uw(r:V->Option Int->Option Int->Hp->VK->Prop)(te:TE)(tl th:TO):TE:=λa H Q=>te a H λx b=>tl a b λl c=>th a c λu d=>r x l u d Q
def HA (i:kj X r)(j:PE X e te)(k:PO X lo tl)(m:PO X hi th):PE X (.Subscript e (.Slice lo hi al p2) pos) (Uw r te tl th):=by$(λa s d H Q I h=>ae' (aF (j a s d H _ I h) λv n g=>?_));let(x,o,p,t,y):=g;$(wpAny_Slice (aF (k a n d o _ p y) λvl z ⟨l,B,C,D,F⟩=>aF (m a z d B _ C F) λf c h=>?_));let(u,g,G,J,K):=h;apply fj;let L:Inv X a d g {c with heap:=c.heap.push {cls:=.type "slice",data:=.fields #[vl,f,.none]} }:=G.kept (t':=c.toks) λb ob q=>eJ _ q;let(T,id,M,N,O):=i a {c with heap:=c.heap.push {cls:=.type "slice",data:=.fields #[vl,f,.none]} } d g x v vl f l u c.heap.objs.size Q L t (afo ..) D J K;$(tail_any N M O (by with_unfolding_all rfl))
def jy(xs:List V)(lo hi:Option Int):List V:=(xs.drop<|bz xs.length 0 lo).take (bz xs.length xs.length hi-bz xs.length 0 lo)
def F3(xs)(lo hi):(jy xs lo hi).length<=xs.length:=by delta jy;rw[f',iW];lia
def Lc(K:e6):V->Option Int->Option Int->Hp->VK->Prop:=λx lo hi H Q=>∃a xs,x=.ref a/\bj K H a xs /\
 ¬(bz xs.length 0 lo=0/\bz xs.length xs.length hi=xs.length)/\∀p,H p=al->Q (.ref p) (upd H p<|.U<|jy xs lo hi)
def R0:kj X (Lc X.K):=by
 ext pins s σ H x v vl vu lo hi sl Q I rx g i j h;let(a,xs,rfl,hx,hw,q):=h;$$rx;let(its,r,d,f):=I.tuple hx;let c:its.toArray.size=xs.length:=by rw[fv];$r.length.symm
 $({"tuple",_,I1.lookup,d.typeIs,?_});$(NP d g i j (by rw[c];$hw) ?_ (by rw[c];$f));rw[c];$({.ref s.heap.objs.size,_,I.laid (λb ob q=>eJ _ q) (eS _) ?_,ρ,q _<|I.aj.fresh<|eS _});$({m3 (F3 xs lo hi) f,_,(r.drop<|bz xs.length 0 lo).take (bz xs.length xs.length hi-bz xs.length 0 lo),aet _ _})
def BK(K:e6):R2:=λx y H Q=>∃a b xs ys,x=.ref a/\y=.ref b/\bj K H a xs/\bj K H b ys/\xs≠[]/\xs.length+ys.length<=a9 /\
 (ys=[]->Q (.ref a) H)/\(ys≠[]->∀p,H p=al->Q (.ref p) (upd H p<|.U<|xs++ys))
theorem aH.w4 (r:aH xs a):a=[]↔xs=[]:=by
 cases r with
 |nil=>simp
 |cons _ _=>simp
def SY:aV X (Q2 .Add) (BK X.K):=by ext pins s σ H x y v u Q I rx g h;let(a,b,xs,ys,rfl,rfl,i,j,hx,f,k,l):=h;$$rx;$$g;let(its,d,m,_):=I.tuple i;let(its2,c,p2,_):=I.tuple j;$(JQ m p2 (λz=>hx<|d.w4.1 z) (λz=>{.ref a,H,I,ρ,k<|c.w4.1 z}) (λz=>?_) (by rw[<-d.length,<-c.length];$f));$({.ref s.heap.objs.size,_,I.laid (λb ob q=>eJ _ q) (eS _) ?_,ρ,l (λw=>z<|c.w4.2 w) _<|I.aj.fresh<|eS _});$({by rw[fk];$f,_,d.append c,aet _ _})
end
def iT(n:Nat)(i:Int):Option Nat:=if 0<=i then(if i<n then ac i.toNat else al)else if -(n:Int)<=i then ac (i+n).toNat else al
def eE (xs:List a)(i:Int):Option a:=(iT xs.length i).bind λj=>xs[j]?
def Gn (h:iT n i=ac j):seqIndex? i n=ac j/\j<n/\-(n:Int)<=i/\i<n:=by
 delta iT at h;ext(b:0<=i)
 .rw[if_pos b]at h;ext(a:i<n)
  .rw[if_pos a]at h;let e:=Option.some.inj h;$({by rw[aeK b a,e],∅,∅,a})
  rw[if_neg a]at h;$(nO h)
 rw[if_neg b]at h;ext(a:-(n:Int)<=i)
 .rw[if_pos a]at h;let e:=Option.some.inj h;$({by rw[aeg ∅ a,e],∅,a,∅})
 rw[if_neg a]at h;$(nO h)
theorem AH{a:Type}{xs:List a}{i:Int}{v:a}(h:eE xs i=ac v):∃j,seqIndex? i xs.length=ac j/\xs[j]?=ac v/\j<xs.length/\-(xs.length:Int)<=i/\i<xs.length:=by
 delta eE at h;cases e:iT xs.length i with
 |none=>rw[e]at h;$(nO h)
 |some j=>rw[e]at h;let(b,c,d,f):=Gn e;$(⟨j,b,h,c,d,f⟩)
def nh{a:Type}{xs:List a}{j:Nat}{v:a}(h:xs[j]?=ac v):eE xs (j:Int)=ac v:=by let hj:=(bg.1 h).1;simp![iT,eE]
def oQ(b:fA):Prop:=∀o i,ada b false o i=operate [o,i] (acd o i)
def kM(X:Cx)(r:R2):Prop :=
 ∀(value slice:fA) (a:List (cA×ua)) (s:dq) (b:St) (H:Hp) (x y:V) (v u:bt) (Q:VK),Inv X a b H s->RelV x v->RelV y u->r x y H Q ->
  ada slice false v u=operate [v,u] (acd v u)->gW (hJ X.prog X.w) X.A (adZ value slice v u) (EP X a b Q) X.xe s
def mU(X:Cx)(id:String)(r:V->List V->Hp->VK->Prop):Prop :=
 ∀(a:List (cA×ua)) (s:dq) (b:St) (H:Hp) (x:V) (xs:List V) (v:bt) (c:List bt) (Q:VK),Inv X a b H s->RelV x v->aH xs c->r x xs H Q ->
  gW (hJ X.prog X.w) X.A (call (.builtin id) (v::c)) (EP X a b Q) X.xe s
section
variable{X:Cx}{a b:fA}{ta tb:TE}{pos:q7}
def kM.or (h:kM X r)(h':kM X d):kM X (λx y H Q=>r x y H Q\/d x y H Q):=by
 ext value slice c s e H x y v u Q I rx f q g;let q||q:=q
 .$(h value slice c s e H x y v u Q I rx f q g)
 $(h' value slice c s e H x y v u Q I rx f q g)
def Cy (d:kM X r)(e:PE X a ta)(f:PE X b tb)(g:oQ b):PE X (.Subscript a b pos) (nY r ta tb):=by$(λc s i H Q I h=>ae' (yQ e f I h λv u j x y k l rx m q=>d a b c j i k x y v u Q l rx m q<|g _ _))
def GS(K:e6):R2:=λx y H Q=>∃p xs i v,x=.ref p/\y=.int i/\bV K H p xs/\eE xs i=ac v/\Q v H
def Gb(K:e6):R2:=λx y H Q=>∃p xs i v,x=.ref p/\y=.int i/\bj K H p xs/\eE xs i=ac v/\Q v H
def Hu:R2:=λx y H Q=>∃z i c,x=.str z/\y=.int i/\z.length<=a9/\eE z.cps.toList i=ac c/\Q (.str ⟨#[c]⟩) H
def RS:kM X (GS X.K):=by
 ext value slice c s k H x y v u Q I rx A h l;let(p,xs,i,z,rfl,rfl,B,C,q):=h;$$rx;let(t,rfl):=A;let(its,r,f,hz):=I.list B;let(j,d,D,h3,E,F):=AH C;let(w,m,n):=r.get D;let G:=r.length;let hn:=kF;let e:EP X c k Q w s:=⟨z,H,I,n,q⟩;ext(o:0<=i)
 .let g:i.toNat=j:=by rw[aeK o F]at d;$(Option.some.inj d)
  $(item_listR f.isList o ∅ (by rw[g];$$$$m) e l)
 let g:(i+(its.toArray.size:Int)).toNat=j:=by rw[aeg ⋯ E]at d;rw[fv,<-G];$(Option.some.inj d)
 $(aer f.isList.typeIs afk.lookup
  (wpAny_getItem_list_neg f.isList ⋯ (by rw[fv]<;>$_) (by lia) (by rw[g];$$$$m) ⟨ρ,e⟩) l)
def NA:kM X (Gb X.K):=by
 ext value slice c s d H x y v u Q I rx k h l;let(p,xs,i,z,rfl,rfl,m,n,q):=h;$$rx;let(t,rfl):=k;let(its,r,e,hz):=I.tuple m;let(j,o,A,h3,h4,h5):=AH n;let(w,B,f):=r.get A;let C:=r.length;let hn:=kF;let g:EP X c d Q w s:=⟨z,H,I,f,q⟩;$(aer e.typeIs I1.lookup
  (getItem_tuple e (by lia) (by lia) (by rw[fv,<-C];$o) (by$$$$B) ⟨ρ,g⟩) l)
def EM(K:e6):R2:=λx y H Q=>GS K x y H Q\/Gb K x y H Q\/Hu x y H Q
def Dq:kM X (EM X.K):=RS.or (NA.or (by
  ext value slice pins s σ H x y v u Q I rx e h f;let(z,i,c,rfl,rfl,hz,g,q):=h;let(t,rfl):=rx;let(t',rfl):=e;let(j,d,k,h3,l,m):=AH g;let n:z.cps.toList.length=z.length:=by simp[Str.length]
  rw[n]at d l m;let hn:=kF;$(tail_any (abP s z t) adg.lookup (getItem_str (by lia) (by rw[d];$$$$k) {.str ⟨#[c]⟩,H,I.tok _,{_,ρ},q}) f)))
def SE(its:List bt)(n j:Nat)(u:bt):aaJ (·.setIfInBounds j u) {cls:=.type "list",data:=.seq its.toArray n}={cls:=.type "list",data:=.seq (its.set j u).toArray n}:=by simp[aaJ]
def Inv.L (I:Inv X c d H s)(h:H p=ac (.L xs)) :
  ∃(its:List bt) (n:Nat),aH xs its/\s.heap.get? p=ac {cls:=.type "list",data:=.seq its.toArray n}/\xs.length<=sizeLine:=by
 let(z,its,n,r,e):=I.aj p _ h;$(⟨its,n,r,e,z⟩)
def Inv.Lf{c:List (cA×ua)}{g:St}{H:Hp}{s:dq}{p:cA}{xs ys:List V}{its its':List bt}{n d:Nat}{f:ua->ua}(I:Inv X c g H s)(h:H p=ac (.L xs))
 (j:s.heap.get? p=ac {cls:=.type "list",data:=.seq its.toArray n})(i:f {cls:=.type "list",data:=.seq its.toArray n}={cls:=.type "list",data:=.seq its'.toArray d})(r:aH ys its')(k:ys.length<=a9)(t:Nat) :
  Inv X c g (upd H p<|.L ys) {s with heap:=s.heap.update p f,toks:=t}:=by
 let e:(s.heap.update p f).get? p=ac {cls:=.type "list",data:=.seq its'.toArray d}:=by rw[adB f j (by rw[i]<;>rfl),i]
 apply I.write (by rw[h];trivial) (ι ρ) (λb u l q=>(P2 _ _<|Ne.symm l).trans q) {_,e};$(⟨k,its',d,r,e⟩)
def Np:V->V->V->Hp->(Hp->Prop)->Prop:=λo i v H Q=>∃p xs k j,o=.ref p/\i=.int k/\H p=ac (.L xs)/\iT xs.length k=ac j/\Q (upd H p<|.L<|xs.set j v)
def set_list:EH X Np:=by
 ext d s w H o i v ov iv u Q I ro x y h;let(p,xs,k,j,rfl,rfl,g,z,q):=h;$$ro;let(t,rfl):=x;let(its,n,r,e,A):=I.L g;let(c,h2,B,C):=Gn z;let D:=r.length;let hn:=kF;let l:Inv X d w (upd H p<|.L<|xs.set j v) {s with heap:=s.heap.update p (aaJ (·.setIfInBounds j u))} :=
  I.Lf g e (SE its n j u) (r.set y j) (by rw[kx];$A) s.toks
 ext(m:0<=k)
 .let f:k.toNat=j:=by rw[aeK m C]at c;$(Option.some.inj c)
  $(W.ki_setAt e m (by lia) (by simp!) (by rw[f];$({_,l,q})))
 let f:(k+(its.toArray.size:Int)).toNat=j:=by rw[aeg ∅ B]at c;rw[fv,<-D];$(Option.some.inj c)
 $(W.ki_setBack e ∅ (by simp!) (by lia) (by rw[f];$({_,l,q})))
theorem KA(lo hi)(n):(aa0 lo hi al n).1=((bz n 0 lo:Nat):Int)/\(aa0 lo hi al n).2.1=((bz n n hi:Nat):Int)/\(aa0 lo hi al n).2.2=1:=by
 $({?_,?_,ρ})
 .cases lo with
  |none=>simp[aa0,bz]
  |some i=>simp?[aa0,bz,ad',if_true];grind
 cases hi with
 |none=>simp[aa0,bz]
 |some i=>simp?[aa0,bz,ad',if_true];grind
def NI(its:List bt)(lo hi:Option Int):slicePick its.toArray lo hi al=((its.drop<|bz its.length 0 lo).take (bz its.length its.length hi-bz its.length 0 lo)).toArray:=by let(c,d,e):=KA lo hi its.toArray.size;delta slicePick;simp?[c,d,e];simp?[sliceRange_one,pick_run]<;>rfl
def Qb(K:e6):V->Option Int->Option Int->Hp->VK->Prop:=λx lo hi H Q=>∃a xs,x=.ref a/\bV K H a xs/\∀p,H p=al->Q (.ref p) (upd H p<|.L<|jy xs lo hi)
def KH:kj X (Qb X.K):=by ext pins s σ H x v vl vu lo hi sl Q I rx e f g h;let(a,xs,rfl,hx,q):=h;$$rx;let(its,r,d,i):=I.list hx;let c:=r.length;$({"list",_,afk.lookup,d.isList.typeIs,?_});$(wpAny_getItem_list_slice d.isList e f g .none ⋯ ?_ (by rw[fv]<;>$_));rw[NI,<-c];$({.ref s.heap.objs.size,_,I.laid (λb ob q=>eJ _ q) (eS _) ?_,ρ,q _<|I.aj.fresh<|eS _});$({m3 (F3 xs lo hi) i,_,0,(r.drop<|bz xs.length 0 lo).take (bz xs.length xs.length hi-bz xs.length 0 lo),g8 _ ρ})
def T3:aV X (j' .NotIn) (λx y H Q=>∃i j,x=.str i/\y=.str j/\Q (.bl<|!(!(lq j i 0 j.length 1).isEmpty)) H):=by ext pins s σ H x y v u Q I rx c h;let(i,j,rfl,rfl,q):=h;let(t,rfl):=rx;let(t',rfl):=c;$(notIn_str {.bl _,H,I,ρ,q})
def Uq:bP X (.builtin "len") (λxs H Q=>∃p ys,xs=[.ref p]/\(bV X.K H p ys\/bj X.K H p ys)/\Q (.int ys.length) H):=by
 ext pins s σ H xs us Q I r h;let(p,ys,rfl,d,q):=h;let(u,rfl,rx):=vals1 r;$$rx;let hn:=kF;let d||d:=d
 .let(its,e,f,g):=I.list d;let c:=e.length;$(Calls.call_len_list f.isList (by grind) {.int ys.length,H,I.tok _,{s.toks+1,by rw[fv,c]},q})
 let(its,e,f,g):=I.tuple d;let c:=e.length;$(len_tuple f (by grind) {.int ys.length,H,I.tok _,{s.toks+1,by rw[fv,c]},q})
def VZ:bP X (.builtin "len") (λxs H Q=>∃z,xs=[.str z]/\z.length<=a9/\Q (.int z.length) H):=by ext pins s σ H xs us Q I r h;let(z,rfl,hz,q):=h;let(u,rfl,t,rfl):=vals1 r;let hn:=kF;$(len_str (by lia) {.int z.length,H,I.tok _,{_,ρ},q})
def bP.or (h:bP X f r)(h':bP X f d):bP X f (λxs H Q=>r xs H Q\/d xs H Q):=by
 ext c s e H xs g Q I rs q;let q||q:=q
 .$(h c s e H xs g Q I rs q)
 $(h' c s e H xs g Q I rs q)
def Kg:bP X (.type "list") (λxs H Q=>∃p ys,xs=[.ref p]/\(bV X.K H p ys\/bj X.K H p ys)/\∀l,H l=al->Q (.ref l) (upd H l<|.L ys)):=by
 ext j s y H xs us Q I r h;let(p,ys,rfl,f,q):=h;let(u,rfl,rx):=vals1 r;$$rx;let i:∀(its:List bt),aH ys its->ys.length<=a9->∀(h':k7) (c:Nat),(∀b x,s.heap.get? b=ac x->h'.get? b=ac x) ->
   h'.get? s.heap.objs.size=ac {cls:=.type "list",dict:=al,data:=.seq its.toArray c,slots:=#[]}->EP X j y Q (.ref s.heap.objs.size) {s with heap:=h'}:=λits d g h' c kp e =>
  {.ref s.heap.objs.size,_,I.laid kp (eS _) (show cN X.prog X.w _ h' _ (.L ys)from⟨g,its,c,d,e⟩),ρ,q _<|I.aj.fresh<|eS _}
 let f||f:=f
 .let(its,d,k,g):=I.list f;let m:=d.length;let(o,t,v,n,hd):=k.isList;$(agi p (ι ρ) t v hd (λh' c kp e=>i its d g h' c kp e) (by simp!))
 let(its,d,k,g):=I.tuple f;let m:=d.length;let(o,t,v,n,hd):=k;$(agi p (τ ρ) t v hd (λh' c kp e=>i its d g h' c kp e) (by simp!))
def HI:bP X (.type "tuple") (λxs H Q=>∃p ys,xs=[.ref p]/\((bV X.K H p ys/\∀l,H l=al->Q (.ref l) (upd H l<|.U ys))\/(bj X.K H p ys/\Q (.ref p) H))):=by
 ext c s i H xs us Q I r h;let(p,ys,rfl,h):=h;let(u,rfl,rx):=vals1 r;$$rx;let(d,q)||(d,q):=h
 .let(its,f,g,j):=I.list d;let hlen:=f.length;$(call_tuple_list g.isList (λh' kp=>?_) (by simp!));let k:=I.kept (t':=s.toks) kp;let m:Inv X c i (upd H h'.objs.size<|.U ys) {s with heap:=h'.push {cls:=.type "tuple",data:=.seq its.toArray} } :=
   k.laid (λb o e=>eJ _ e) (eS _) ({j,its,f,aet _ _})
  $({.ref h'.objs.size,_,m,ρ,q _<|k.aj.fresh<|eS _})
 let(its,f,g,j):=I.tuple d;$(call_tuple_same g {.ref p,H,I,ρ,q})
def w8(K:e6)(T:String)(x:V)(H:Hp):Prop:=match x with
 | .str _=>T="str"
 | .int _=>T="int"
 | .ref p=>(T="list"/\∃xs,bV K H p xs)\/(T="tuple"/\∃o,K.lookup p=ac o/\o.cls=.type "tuple"/\o.dict=al) \/
   (T="dict"/\((∃kvs,H p=ac (.dK kvs))\/∃kvs,H p=ac (.dT kvs)))\/(T="set"/\∃S n,H p=ac (.set S n))
 |_=>False
theorem CO (I:Inv X f k H s)(r:RelV x v)(ty:w8 X.K T x H) :
  s.TypeIs v T/\∀a,v=.ref a->∃h,s.heap.get? a=ac h/\h.dict=al:=by
 cases x with
 |str z=>let(t,rfl):=r;cases(ty);simp[abP]
 |int i=>let(t,rfl):=r;cases(ty);simp[ae4]
 |ref p =>
  $$r;let(rfl,xs,l)||(rfl,o,d,m,hd)||(rfl,d)||(rfl,S,n,d):=ty
  .let(its,_,j,_):=I.list l;$({j.isList.typeIs,λa e=>?_});$$$e;let(o,n,e,c,hd,_):=j;$(⟨o,e,hd⟩)
  .$({{o,I.gI p o d,m},λa e=>?_});$$$e;$({o,I.gI _ o d,hd})
  .let z:∃o,s.heap.get? p=ac o/\o.ExactDict:=by
    let(kvs,d)||(kvs,d):=d
    .let(_,_,_,_,o,_,_,e,ex,_):=I.aj p _ d;$(⟨o,e,ex⟩)
    let(_,_,_,_,o,_,_,e,ex,_):=I.aj p _ d;$(⟨o,e,ex⟩)
   let(o,e,ex):=z;$({⟨o,e,ex.1⟩,λa g=>?_});$$$g;$(⟨o,e,ex.2.1⟩)
  let(o,_,_,_,e,ex,_):=I.aj p _ d;$({⟨o,e,ex.1⟩,λa g=>?_});$$$g;$(⟨o,e,ex.2.1⟩)
 |_=>$(KX ty)
def tJ(K:e6)(T:String)(r:V->List V->Hp->VK->Prop)(to:TE):TE:=λd H Q=>to d H λx c=>w8 K T x c/\r x [] c Q
def rh(K:e6)(T:String)(r:V->List V->Hp->VK->Prop)(to:TE)(t:TA):TE:=λc H Q=>to c H λx d=>w8 K T x d/\t c d λxs e=>r x xs e Q
variable{o e:fA}{es:List fA}{to:TE}{t:TA}{name:ew}{apos cpos:q7}{T id:String}{r:V->List V->Hp->VK->Prop}
def yH(l:PlainAttrs T)(slot:Slot T name id)(g:typeOf (.builtin id)=pure (.type "method_descriptor"))(m:mU X id r)(n:PE X o to)
 (d:z3 o name X.env (eval o X.env)=eval o X.env:=by rfl)(f:(apos.endLine==cpos.line)=bd:=by rfl):PE X (.Call (.Attribute o name apos) [] [] cpos) (tJ X.K T r to):=by
 ext c s i H Q I h;$(wpAny_Call_method0_late d f (aF (n c s i H _ I h) λv p ⟨x,q,j,k,ty,u⟩=>?_));let(w,y):=CO j k ty;$({T,id,l,slot,g,w,y,adm ρ<|PySem.evalArgs_none<|m c p i q x [] v [] Q j k .nil u})
def mD(p:PlainAttrs T)(slot:Slot T name id)(k:typeOf (.builtin id)=pure (.type "method_descriptor"))(q:mU X id r)(u:PE X o to)(w:PA X (e::es) t)
 (f:z3 o name X.env (eval o X.env)=eval o X.env:=by rfl)
 (i:((YP cpos<|ma (e::es) X.env).all (λx=>!x.1)&&(af7 cpos<|aeL [] X.env).all (λx=>x.1.isSome)
   && am ((e::es).length+([]:List adt).length+(if([]:List adt).isEmpty then 0 else 1)<30))=bd:=by rfl)
 (g:(apos.endLine==cpos.line)=bd:=by rfl)(y:bI X e es:=by rfl)(d:(YP cpos<|ma es X.env).any (·.1)=bi:=by rfl) :
  PE X (.Call (.Attribute o name apos) (e::es) [] cpos) (rh X.K T r to t):=by
 $(λc s j H Q I h=>wpAny_Call_method_late f i g ρ (aF (u c s j H _ I h) λv z e=>?_));let(x,A,l,m,ty,B):=e;let(C,D):=CO l m ty;$({T,id,p,slot,k,C,D,?_});let n:=w cpos c z j A _ l B;rw[y]at n ⊢;$(adm (by show(false||(YP cpos<|ma es X.env).any (·.1))=bi;rw[d]<;>rfl)<|Calls.evalArgs_plain ?_);$(aF n λE F ⟨vs,G,J,L,M⟩=>q c F j G x vs v E Q J m L M)
end
def vx(X:Cx)(id:String)(r:V->List V->Hp->VK->Prop):Prop :=
 ∀(a:List (cA×ua)) (s:dq) (b:St) (H:Hp) (x:V) (xs:List V) (v:bt) (c:List bt) (Q:VK),Inv X a b H s->RelV x v->aH xs c->r x xs H Q ->
  gW (hJ X.prog X.w) X.A (call (.builtin id) (v::c)) (EP X a b Q) X.xe s
theorem aH.one (h:aH [x] a):∃u,a=[u]/\RelV x u:=by
 cases h with
 |cons r t=>$$$t;$({_,ρ,r})
theorem aH.two (h:aH [x,y] a):∃u v,a=[u,v]/\RelV x u/\RelV y v:=by
 cases h with
 |cons r t=>let(v,e,q):=aH.one t;$({_,v,by rw[e],r,q})
theorem aH.zero:∀{a:List bt},aH [] a->a=[]
 |_,.nil=>rfl
theorem aH.dropLast{xs:List V}{a:List bt}(h:aH xs a):aH xs.dropLast a.dropLast:=by
 induction h with
 |nil=>$(.nil)
 |cons r t b =>
  cases t with
  |nil=>$(.nil)
  |cons q t'=>$(.cons r b)
theorem My{c:Type}(l:List c):l.eraseIdx (l.length-1)=l.dropLast:=by
 induction l with
 |nil=>rfl
 |cons a r d =>
  cases r with
  |nil=>rfl
  |cons b r =>
   let e:(a::b::r).length-1=((b::r).length-1)+1:=by let h1:(a::b::r).length=r.length+2:=ρ;let h2:(b::r).length=r.length+1:=ρ;$_
   rw[e,List.eraseIdx_cons_succ,d]
   all_goals rfl
section
variable{X:Cx}{pins:List (cA×ua)}{σ:St}{H:Hp}{s:dq}{l b:cA}{xs ys zs:List V}{prog:hE}{w:iR}{A:nL}{E:bt->dq->Prop}
def Inv.wA{its its':List bt}{n:Nat}{f:Array bt->Array bt}{t':Nat}(I:Inv X pins σ H s)(a:H l=ac (.L xs))
 (e:s.heap.get? l=ac {cls:=.type "list",data:=.seq its.toArray n})(c:f its.toArray=its'.toArray)(d:aH ys its')(g:ys.length<=a9) :
  Inv X pins σ (upd H l<|.L ys) {s with heap:=s.heap.update l<|aaJ f,toks:=t'}:=by
 let q:=PySem.IsL.update e f;rw[c]at q;apply I.write (by rw[a];$trivial) (ι ρ) (λb' u h i=>(P2 s.heap (aaJ f)<|Ne.symm h).trans i) {_,q};$({g,its',_,d,q})
def Inv.sx (I:Inv X pins σ H s)(a:aH ys its)(c:ys.length<=a9) :
  Inv X pins σ (upd H s.heap.objs.size<|.L ys) {s with heap:=s.heap.push {cls:=.type "list",data:=.seq its.toArray},toks:=t'} :=
 I.laid (λ_ _ q=>eJ _ q) (eS _) {c,its,0,a,g8 _ ρ}
def Inv.fresh(I:Inv X pins σ H s):H s.heap.objs.size=al:=I.aj.fresh<|eS _
def Inv.uM(I:Inv X pins σ H s)(a:H l=ac (.L xs)):xs.length<=a9/\∃(its:List bt) (n:Nat),aH xs its/\xs.length=its.length/\s.heap.get? l=ac {cls:=.type "list",data:=.seq its.toArray n}:=by let(z,its,n,r,e):=I.aj l _ a;$(⟨z,its,n,r,r.length,e⟩)
def BS:V->List V->Hp->VK->Prop:=λx vs H Q=>∃l xs y,x=.ref l/\vs=[y]/\H l=ac (.L xs)/\xs.length<a9/\Q .aP (upd H l<|.L<|xs++[y])
def EL:vx X "list.append" BS:=by ext pins s σ H x vs v us Q I rx c h;let(l,xs,y,rfl,rfl,a,hz,q):=h;$$rx;let(u,rfl,d):=c.one;let(z,its,n,r,hl,e):=I.uM a;$(HT adG {_,e,ρ} F.entry_list_append (F.args_list_append_2 _ _) (PySem.list_append l its.toArray n u (by rw[fv];$_)) {e,?_});$({.aP,_,I.wA a e ⋯ (r.append<|.cons d .nil) ?_,ρ,q});rw[fk,abG];$_
def Dg:V->List V->Hp->VK->Prop:=λx vs H Q=>∃l xs y,x=.ref l/\vs=[]/\H l=ac (.L xs)/\xs[xs.length-1]?=ac y/\Q y (upd H l<|.L xs.dropLast)
theorem JE:vx X "list.pop" Dg:=by
 ext pins s σ H x vs v us Q I rx f h;let(l,xs,y,rfl,rfl,a,g,q):=h;$$rx;let c:=f.zero;$$c;let(z,its,n,r,i,e):=I.uM a;let(u,j,k):=r.get g;let d:its.toArray[its.toArray.size-1]?=ac u:=by show its.toArray[its.length-1]?=ac u;rw[<-lp,<-i];$j
 $(HT ad9 {_,e,ρ} F.entry_list_pop (F.args_list_pop_1 _) (MeetsSeq.list_pop_last l its.toArray n u d (by rw[fv];$_)) {e,?_});$({y,_,I.wA (its':=its.dropLast) a e ?_ r.dropLast ?_,k,q})
 .show its.toArray.eraseIdxIfInBounds (its.toArray.size-1)=its.dropLast.toArray;rw[fv,List.eraseIdxIfInBounds_toArray,My]
 rw[List.length_dropLast];$_
def xb:V->List V->Hp->VK->Prop:=λx vs H Q=>∃l xs,x=.ref l/\vs=[]/\H l=ac (.L xs)/\Q .aP (upd H l<|.L [])
theorem B0:vx X "list.clear" xb:=by ext pins s σ H x vs v us Q I rx d h;let(l,xs,rfl,rfl,a,q):=h;$$rx;let c:=d.zero;$$c;let(z,its,n,r,hl,e):=I.uM a;$(HT abx {_,e,ρ} F.entry_list_clear (F.args_list_clear_1 _) (AutoSeq1.list_clear_list_0 l its.toArray n (by rw[fv];$_)) {e,?_});$({.aP,_,I.wA (its':=[]) (ys:=[]) a e ρ .nil<|rp _,ρ,q})
set_option maxRecDepth 100000 in
end
section
variable{κ:Type}[DecidableEq κ]
def fL(kvs:List (κ×V))(k:κ):Option V:=(kvs.find? λa=>am<|a.1=k).map (·.2)
def putK(kvs:List (κ×V))(k:κ)(v:V):List (κ×V) :=
 if(kvs.any λa=>am<|a.1=k)=bd then kvs.map (λa=>if a.1=k then(a.1,v)else a)else kvs++[(k,v)]
def qL{p:κ×V}{r:List (κ×V)}{k:κ}(e:p.1=k):fL (p::r) k=ac p.2:=by simp[fL,abB,e]
def rl{p:κ×V}{r:List (κ×V)}{k:κ}(e:¬p.1=k):fL (p::r) k=fL r k:=by simp[fL,abB,e]
theorem vD(k):∀kvs:List (κ×V),(kvs.any λa=>am<|a.1=k)=(fL kvs k).isSome
 |[]=>rfl
 | p::r=>by
  simp;ext(e:p.1=k)
  .simp?[qL e,decide_eq_true e,Bool.true_or,Option.isSome_some]
  simp?[rl e,decide_eq_false e];$(vD k r)
theorem zI(kvs:List (κ×V))(k:κ)(v:V):(putK kvs k v).length<=kvs.length+1:=by
 $$(putK);split
 .simp?[a8];lia
 simp
theorem j8.qu (r:j8 o u):o.isSome=u.isSome:=by
 cases o with
 | none=>cases u with
  |none=>rfl
  |some _=>$((r).elim)
 | some _=>cases u with
  |none=>$((r).elim)
  |some _=>rfl
theorem KV.val (r:KV kvs vs)(k:κ):j8 (fL kvs k) (aee vs k):=by
 unfold KV at r;induction r with
 |nil=>$aaF
 | @cons p q ps a h t ih =>
  let(c,d):=h;ext(e:p.1=k)
  .let f:=c.symm.trans e;let b:aee (q::a) k=ac q.2:=by simp[aee,abB,f]
   rwa[qL e,b]
  simp![aee,rl]
theorem KV.any (r:KV kvs vs)(k:κ):(kvs.any λa=>am<|a.1=k)=vs.any λa=>am (a.1=k):=by
 induction r with
 |nil=>rfl
 |cons h t b=>rw[W0,W0,b,h.1]
theorem KV.jf (r:KV kvs vs)(k:κ)(c:RelV y u) :
  KV (kvs.map λa=>if a.1=k then(a.1,y)else a) (vs.map λa=>if a.1=k then(a.1,u)else a):=by
 unfold KV at r ⊢;induction r with
 |nil=>$(.nil)
 | @cons p q ps qs h t d =>
  rw[fR,fR];$(.cons ?_ d);let(b,h2):=h;ext(e:p.1=k)
  .rw[if_pos e,if_pos<|b.symm.trans e];$(⟨b,c⟩)
  simp!
def KV.put (r:KV kvs vs)(k:κ)(a:RelV y u):KV (putK kvs k y) (stored vs k u):=by
 delta putK stored;rw[r.any k];ext(e:(vs.any λb=>am<|b.1=k)=bd)
 .rw[if_pos e,if_pos e];$(r.jf k a)
 rw[if_neg e,if_neg e];$(Paired.snoc r ⟨ρ,a⟩)
theorem KV.keys{kvs:List (κ×V)}{vs:List (κ×bt)}(r:KV kvs vs):kvs.map (·.1)=vs.map (·.1):=by
 induction r with
 |nil=>rfl
 |cons h t a=>rw[fR,fR,a,h.1]
def KV.length (r:KV kvs vs):kvs.length=vs.length:=Paired.length r
end
theorem o8 (r:RelV (kV k) u):(cU P w).is k u=bd:=by
 cases k with
 |inl i=>let(t,e):=(r);$$e;$((λprog w i t=>QU i t) P w i t)
 |inr x=>let(t,e):=(r);$$e;$((λprog w x t=>Dm x t) P w x t)
theorem BQ:∀{a:List Key}{b:List bt},aH (a.map kV) b->ItemsAre (cU P w) a b
 |[],_,r=>by rw[aax]at r;$$$r;$(.nil)
 | k::a,_,r=>by
  cases r with
  |cons h t=>$(.cons (o8 h)<|BQ t)
abbrev KT(H:Hp):List (List Key×V)->List (List Key×cA×bt)->Prop:=aao λp q=>p.1=q.1/\H q.2.1=ac (.U<|p.1.map kV)/\RelV p.2 q.2.2
theorem KT.val (r:KT H kvs xs)(k:List Key):j8 (fL kvs k) ((aeN xs k).map (·.2)):=by
 induction r with
 |nil=>$aaF
 | @cons p q ps a h t ih =>
  let(c,_,d):=h;ext(e:p.1=k)
  .let f:=c.symm.trans e;let b:aeN (q::a) k=ac q.2:=by simp[aeN,abB,f]
   rwa[qL e,b]
  simp![aeN,rl]
theorem KT.jf (r:KT H kvs xs)(k:List Key)(d:RelV y u) :
  KT H (kvs.map λb=>if b.1=k then(b.1,y)else b) (xs.map<|putAt k u):=by
 induction r with
 |nil=>$(.nil)
 | @cons p q ps qs h t f =>
  simp;$(.cons ?_ f);let(a,c,g):=h;delta putAt;ext(e:p.1=k)
  .rw[if_pos e,if_pos<|a.symm.trans e];$(⟨a,c,d⟩)
  rw[if_neg e,if_neg<|λz=>e<|a.trans z];$(⟨a,c,g⟩)
def KT.put (r:KT H kvs xs)(k:List Key)(c:H b=ac (.U<|k.map kV))(a:RelV y u) :
  KT H (putK kvs k y) (storedH xs k b u):=by
 let e:(kvs.any λd=>am<|d.1=k)=(aeN xs k).isSome:=by rw[vD,(r.val k).qu,ab4]
 delta putK storedH;rw[e];ext(q:(aeN xs k).isSome=bd)
 .rw[if_pos q,if_pos q];$(r.jf k a)
 rw[if_neg q,if_neg q];$(Paired.snoc r ⟨ρ,c,a⟩)
def KT.keeps (r:KT H kvs xs)(c:∀b ys,H b=ac (.U ys)->a b=ac (.U ys)):KT a kvs xs :=
 Paired.qZ r λ_ _ z=>{z.1,c _ _ z.2.1,z.2.2}
section
variable{P:hE}{w:iR}{H:Hp}{h:k7}{a:cA}{X:Cx}{pins:List (cA×ua)}{σ:St}{s:dq}{y v:V}{u r:bt}{o:Option V}{A:nL}{E:bt->dq->Prop}
def yn{u:HO}(ok:ck P w H h)(e:Rd H a u):cN P w H h a u:=e.ok ok
def k8 (ok:ck P w H h)(e:Rd H a (.dK kvs)):kvs.length<=a9/\(a==Hz)=bi/\∃vs,KV kvs vs/\h.DictOf (cU P w) a vs :=
 show cN P w H h a (.dK kvs)from yn ok e
def rX (ok:ck P w H h)(e:H a=ac (.U<|b.map kV)):(ac5<|cU P w).is h b a:=by let(_,its,r,o,c,d,n,f):=(ok a _ e);$({o,its.toArray,n,c,d,f,by$$$$(BQ r)})
theorem sV (ok:ck P w H h)(e:Rd H a (.dT kvs)):kvs.length<=a9/\(a==Hz)=bi /\
  ∃xs,KT H kvs xs/\h.DictOfH (ac5<|cU P w) a xs:=by
 let(z,y,xs,r,o,b,ep,c,d,f,g,i):=(yn ok e);$({z,y,xs,r,o,b,ep,c,d,f,g,λx hx=>?_,i});let all:∀{l:List (List Key×V)}{m:List (List Key×cA×bt)},KT H l m->∀x∈m,(ac5<|cU P w).is h x.1 x.2.1:=by
  ext l m q;induction q with
  |nil=>simp
  | @cons p q ps qs hq t j =>
   ext x hx;let e||hx:=dV.1 hx
   .$(rX ok (by simp!))
   $(j x hx)
 $(all r x hx)
def i9(H:Hp)(a:cA)(y:V)(r:Option V):Prop :=
 (∃kvs k,Rd H a (.dK kvs)/\y=kV k/\r=fL kvs k)\/∃kvs k b,Rd H a (.dT kvs)/\y=.ref b/\H b=ac (.U<|k.map kV)/\r=fL kvs k
def lQ(H:Hp)(a:cA)(y v:V)(c:Hp):Prop :=
 (∃kvs k,H a=ac (.dK kvs)/\y=kV k/\kvs.length<a9/\c=upd H a (.dK<|putK kvs k v)) \/
 ∃kvs k b,H a=ac (.dT kvs)/\y=.ref b/\H b=ac (.U<|k.map kV)/\kvs.length<a9/\c=upd H a (.dT<|putK kvs k v)
theorem i9.k{H:Hp}{a:cA}{kvs:List (Key×V)}{k:Key}(e:H a=ac (.dK kvs)):i9 H a (kV k) (fL kvs k):=ι {kvs,k,ι e,ρ,ρ}
theorem lQ.k{H:Hp}{a:cA}{kvs:List (Key×V)}{k:Key}{v:V}(e:H a=ac (.dK kvs))(b:kvs.length<a9):lQ H a (kV k) v (upd H a<|.dK<|putK kvs k v):=ι ⟨kvs,k,e,ρ,b,ρ⟩
def lQ.t{H:Hp}{a b:cA}{kvs:List (List Key×V)}{k:List Key}{v:V}(e:H a=ac (.dT kvs))(c:H b=ac (.U<|k.map kV))(d:kvs.length<a9) :
  lQ H a (.ref b) v (upd H a<|.dT<|putK kvs k v):=τ ⟨kvs,k,b,e,ρ,c,d,ρ⟩
def Inv.Ah(I:Inv X pins σ H s):Hz<s.heap.objs.size:=by$(aaA ⋯<|(I.mod.glob.keeps I.bk).lt)
def RZ (n:A.units+1<r0)(I:Inv X pins σ H s)(g:i9 H a y (ac v))(j:RelV y u)(h:∀c s',Inv X pins σ H s'->RelV v c->Q c s') :
  gW (hJ X.prog X.w) A (acd (.ref a) u) Q E s:=by
 let(kvs,k,e,i,l)||(kvs,k,b,e,i,q,l):=g
 .$$i;let(z,hd,vs,d,dd):=k8 I.aj e;let(c,hw,f):=j8.some_of (by rw[l];$(d.val k));$(wpAny_getItem_of (o8 j) dd.mapOf hw<|h c _ (I.tok _) f)
 $$i;cases(j);let(z,hd,xs,d,dd):=sV I.aj e;let(c,hw,f):=j8.some_of (by rw[l];$(d.val k));let(p,t,m):=gs.1 hw;apply wpAny_getItem_heap (abg n) (rX I.aj q) dd t;simp[m];$(h c _ (I.tok _) f)
def Me (i:A.units+1<r0)(I:Inv X pins σ H s)(g:i9 H a y o)(f:RelV y u)(h:∀s',Inv X pins σ H s'->Q (.bool o.isSome) s') :
  gW (hJ X.prog X.w) A (j' .In u<|.ref a) Q E s:=by
 let(kvs,k,e,d,l)||(kvs,k,b,e,d,j,l):=g
 .$$d;let(z,hd,vs,c,dd):=k8 I.aj e;apply wpAny_in_of (o8 f) hd dd.mapOf;rw[<-(c.val k).qu,<-l];$(h _<|I.tok _)
 $$d;cases(f);let(z,hd,xs,c,dd):=sV I.aj e;apply wpAny_in_heap (abg i) (rX I.aj j) hd dd;let q:=(c.val k).qu;rw[ab4]at q;simp?[<-q,<-l];$(h _<|I.tok _)
def Jg (i:A.units+1<r0)(I:Inv X pins σ H s)(g:i9 H a y o)(f:RelV y u)(h:∀s',Inv X pins σ H s'->Q (.bool<|!o.isSome) s') :
  gW (hJ X.prog X.w) A (j' .NotIn u<|.ref a) Q E s:=by
 let(kvs,k,e,d,l)||(kvs,k,b,e,d,j,l):=g
 .$$d;let(z,hd,vs,c,dd):=k8 I.aj e;apply wpAny_notIn_of (o8 f) hd dd.mapOf;rw[<-(c.val k).qu,<-l];$(h _<|I.tok _)
 $$d;cases(f);let(z,hd,xs,c,dd):=sV I.aj e;apply wpAny_notIn_heap (abg i) (rX I.aj j) hd dd;let q:=(c.val k).qu;rw[ab4]at q;simp?[<-q,<-l];$(h _<|I.tok _)
def Dh (I:Inv X pins σ H s)(d:fT (H a))(f:aaX a s.heap h')(g:∃q,h'.get? a=ac q)(new:cN X.prog X.w (upd H a c) h' a c) :
  Inv X pins σ (upd H a c) {s with heap:=h',toks:=t'} :=
 I.write d (ι ρ) (λb q i z=>(f.2 b i).trans z) g new
def zV (z:kvs.length<=a9)(hd:(a==Hz)=bi)(b:KV kvs vs)(dd:h'.DictOf (cU P w) a vs) :
  cN P w c h' a (.dK kvs):=⟨z,hd,vs,b,dd⟩
def SA (F:A.units+1<r0)(I:Inv X pins σ H s)(g:lQ H a y v x)(B:RelV y u)(C:RelV v r)(h:∀s',Inv X pins σ x s'->Q () s') :
  gW (hJ X.prog X.w) A (aef (.ref a) u r) Q E s:=by
 let(kvs,k,e,j,l,m)||(kvs,k,b,e,j,D,l,m):=g
 .subst j m;let(z,hd,vs,d,dd):=(λok e=>k8 ok<|ι e) I.aj e;let n:vs.length<=sizeLine:=by rw[<-d.length];$z
  let p:(putK kvs k v).length<=sizeLine:=by grind [zI]
  $(wpAny_setItem_pairs (hsz:=n) (o8 B) dd λh' f t=>h _ ?_);let G:∃q,h'.get? a=ac q:=let⟨q,_,_,i,_⟩:=f;⟨q,i⟩
  $(Dh I (by rw[e];$aaF) t G<|zV p hd (d.put k C) f)
 subst j m;cases(B);let(z,hd,xs,d,dd):=(λok e=>sV ok<|ι e) I.aj e;let n:xs.length<=sizeLine:=by rw[<-Paired.length d];$z
 let p:(putK kvs k v).length<=sizeLine:=by grind [zI]
 $(wpAny_setItem_heap (hsz:=n) (abg F) (rX I.aj D) dd λh' f t=>h _ ?_);let(q,J,ep,i,K,L,M,_,N):=f;$(Dh I (by rw[e];$aaF) t ⟨q,i⟩ {p,hd,_,(d.put k D C).keeps λc ys O=>?_,q,J,ep,i,K,L,M,N});rw[aA (by lia)];$O
end
section
variable{X:Cx}{pins:List (cA×ua)}{σ:St}{H:Hp}{s:dq}{a:cA}{kvs:List (Key×V)}{k:Key}{u:bt}{A:nL}{E:bt->dq->Prop}
def KS (I:Inv X pins σ H s)(e:Rd H a (.dK kvs))(h:∀t s',Inv X pins σ H s'->Q (.int kvs.length t) s'):gW (hJ X.prog X.w) A (call (.builtin "len") [.ref a]) Q E s:=by let(z,hd,vs,b,dd):=k8 I.aj e;apply call_len_dict hd dd (by rw[<-b.length];rw[vi]at z;$_);rw[<-b.length];$(h _ _<|I.tok _)
end
def DL(i:fA):Prop:=∀a b,ada i false a b=operate [a,b] (acd a b)
theorem Km{prog:hE}{w:iR}{A:nL}{E:bt->dq->Prop}{s:dq}{env:Env}{value slice:fA}{pos:q7}{T id:String}{Q:bt->dq->Prop}
 (k:adz (.type T) "__getitem__"=pure (ac<|.builtin id))(l:DL slice)
 (h:gW (hJ prog w) A (eval value env) (λo c=>gW (hJ prog w) A (eval slice env) (λi a=>a.TypeIs o T/\gW (hJ prog w) A (acd o i) Q E a) E c) E s) :
  gW (hJ prog w) A (eval (.Subscript value slice pos) env) Q E s:=by
 $(ae' (za h (λo c f=>za f (λi a b=>?_) λ_ _ x=>x) λ_ _ x=>x));let(j,b):=b;apply cn;$(cn<|wpAny_specialOf j k ?_);let d:gW (hJ prog w) A (ada slice false o i) (λr e=>gW (hJ prog w) A (letTemporaryGo value o r >>= λ_=>pure r) Q E e) E a:=by rw[l o i];$(wpAny_operating (za b (λr e g=>cn<|wpAny_letTemporaryGo<|fj g) λ_ _ x=>x))
 first
  |$(fj (cn d))
  |$(cn (fj<|cn d))
  |$(cn d)
def Mw(d ty:TE):TE:=λb H Q=>d b H λx e=>ty b e λy c=>∃a v,x=.ref a/\i9 c a y (ac v)/\Q v c
def Kd(d ty e:TE):TS:=λD b H=>e b H λv f=>d b f λx g=>ty b g λy h=>∃a c,x=.ref a/\lQ h a y v c/\D.nx b c
section
variable{X:Cx}{o i e value:fA}{pos pos' tpos:q7}{td ty tv:TE}{pins:List (cA×ua)}{σ:St}{H:Hp}{s:dq}{a:cA}{kvs:List (Key×V)}{A:nL}{E:bt->dq->Prop}
def zP(d:X.A.units+1<r0)(f:PE X o td)(hi:PE X i ty)(j:DL i):PE X (.Subscript o i pos) (Mw td ty):=by
 $(λpins s σ H Q I h=>Km PySem.F.slot_dict_getitem.lookup j (aF (f pins s σ H _ I h) λu k ⟨x,l,m,rx,n⟩=>aF (hi pins k σ l _ m n) λiv s2 e=>?_));let(y,p,b,q,a,v,ex,g,r):=e
 $$ex;obtain rfl:u=DU a:=rx;$(⟨(λI g=>by
   let(kvs,k,e,_,_)||(kvs,k,b,e,_,_,_):=g
   .let(_,_,vs,_,dd):=k8 I.aj e;$dd.typeIs
   let(_,_,xs,_,dd):=sV I.aj e;$dd.typeIs) b g,RZ d b g q λw' s3 t c=>⟨v,p,t,c,r⟩⟩)
def HW(b:X.A.units+1<r0)(c:PE X o td)(hi:PE X i ty)(d:PE X value tv)(f:um value (ac<|.Subscript o i pos') pos.line X.env=pure false) :
  PS X (.Assign [.Subscript o i pos'] value pos) (Kd td ty tv):=by
 $(λpins s σ H D I h=>wpAny_Assign_Subscript (aF (d pins s σ H _ I h) λr j ⟨v,k,l,m,n⟩=>aF (c pins j σ k _ l n) λu p ⟨x,q,t,rx,w⟩=>aF (hi pins p σ q _ t w) λiv s3 e=>?_) f);let(y,H3,z,B,a,C,ex,g,F):=e;$$ex;obtain rfl:u=DU a:=rx;$(SA b z g B m λs4 G=>⟨σ,C,G,F⟩)
def LK:TE:=λ_ H Q=>∀p,H p=al->Q (.ref p) (upd H p<|.dT [])
def Pn:PE X (.Dict [] [] pos) LK:=λpins s σ H Q I h =>
 wpAny_Dict_empty ⟨.ref s.heap.objs.size,_,I.laid (λ_ _ q=>eJ _ q) (eS _) ((λh b=>
   {rp _,beq_eq_false_iff_ne.2<|Ne.symm<|gk b,[],.nil,_,#[],0,g8 _ ρ,⟨ρ,ρ,ρ⟩,ρ,ρ,D0}) s.heap I.Ah),ρ,h _<|I.aj.fresh<|eS _⟩
def lI(kvs more:List (Key×V)):List (Key×V):=more.foldl (λb c=>putK b c.1 c.2) kvs
theorem KV.merge:∀{more:List (Key×V)}{rs:List (Key×bt)}{kvs:List (Key×V)}{vs:List (Key×bt)},KV more rs->KV kvs vs->KV (lI kvs more) (aei vs rs):=by
 ext more rs kvs vs r;induction r generalizing kvs vs with
 |nil=>$(λq=>q)
 | @cons p q ps qs h t b =>
  ext c;let e:KV (putK kvs p.1 p.2) (stored vs q.1 q.2):=by rw[<-h.1];$(c.put p.1 h.2)
  $(b e)
theorem BM:∀(more kvs:List (Key×V)),(lI kvs more).length<=kvs.length+more.length
 |[],kvs=>by show kvs.length<=kvs.length+0;$_
 |p::r,kvs=>by let h1:=BM r<|putK kvs p.1 p.2;let h2:=zI kvs p.1 p.2;grind [lI]
def SM (I:Inv X pins σ H s)(e:Rd H a (.dK kvs))(h:∀p s',H p=al->Inv X pins σ (upd H p<|.dK kvs) s'->Q (.ref p) s'):gW (hJ X.prog X.w) A (call (.type "dict") [.ref a]) Q E s:=by let(z,hd,vs,c,dd):=k8 I.aj e;$(kt_call_dict hd dd (by rw[<-c.length];$z) λh' d g=>?_);$(h _ _ (I.aj.fresh<|eS _)<|I.laid (λb q f=>?_) (eS _)<|zV z (beq_eq_false_iff_ne.2<|Ne.symm<|gk I.Ah) c d);$((g.2 b<|gk<|e7 f).trans (eJ _ f))
end
section
open PySem.W PySem.Calls
theorem OH:∀(ns:List Int) (vs:List bt),WellAll P h vs (ns.map afO)->aeu vs ns:=by
 ext ns;induction ns with
 |nil=>ext vs w;$$$w;$(.nil)
 |cons n ns c =>
  ext vs w;cases w with
  |cons a b =>
   $$$a;$(.cons _ _<|c _ b)
theorem IG{l:acG}{n:Nat}(k:l.most=ac n){P:Params}{h:k7}{args:List WData}{b:List bt}
 (c:l.row.toRowW.claim.pre args=bd)(i:WellAll P h b args) :
  ∃a vs ns,b=[DU a]/\args=[WData.list (ns.map afO)]/\h.get? a=ac {cls:=.type "list",data:=.seq vs.toArray}/\aeu vs ns/\ns.length<=n:=by
 let gV:WShape.hasAll [] args [.list .int]=bd:=(pre_splitW c).1;let j:l.pre.holds [] {args:=args}=bd:=(pre_splitW c).2;let(d,r,rfl,m,o):=hasAllW_cons gV;let rfl:=hasAllW_nil o;let(xs,rfl,p):=hasW_list m;let(ns,rfl):=items_int p;let f:ns.length<=n:=by
  let e:(WTm.not<|.lt (.lit<|.int (n:Int))<|.len<|.arg 0).holds [] {args:=[.list (ns.map .int)]}=bd:=by let e:=(holds_andW j).1;rwa[k]at e
  let h5:=condW_of e<|w_not<|w_lt w_lit<|w_len_list<|w_arg ρ;simp!
 cases i with
 |cons q s =>
  $$$s;cases q with
  |list t g=>$({_,_,ns,ρ,ρ,t,OH ns _ g,f})
def MK(l:acG)(args:List WData):l.row.toRowW.claim.post args (.bool true) args=bd :=
 postW_of
  rfl
  (w_eq_bool (w_res ρ) w_lit) rfl
theorem NW{l:acG}{n:Nat}{q:hE}{c:List ew}{p:(ew->Option bt)->k7->Prop}{s:iR->k7->Prop}{d:DefRec}
 (z:l.most=ac n)(t:d.params.defaults=[])
 (call:∀(w:iR) (di b:dq) (mg i:ew->Option bt) (fa:cA) (o:ua) (pm g e:bt) (a:cA) (vs:List bt) (ns:List Int),
   Ground q c [] p w di mg i b.heap->s w b.heap ->
   b.heap.get? fa=ac o->o.data=.func (docDef d.name d.params d.body d.scope pm g e)->b.heap.CodeRec g d.name->mg d.name=ac (.ref fa) ->
   b.heap.get? a=ac {cls:=.type "list",data:=.seq vs.toArray}->aeu vs ns->ns.length<=n->b.gens=#[] ->
   abo (hJ l.prog w) acO (.call (.ref fa) {[.ref a],[]}) (λr s'=>r=.ok (.ret<|.bool true)/\OldK b.heap s'.heap/\s'.os=b.os/\abT s'.gens) b) :
  WalkO q c p s l.row.toRowW d [] (λf vs=>PySem.call f vs):=by
 ext w di b mg i G Y fa o pm g e A kV B hd u v x C args vals as j hlay hrd y hlo;obtain rfl:A=.none:=Dflts.none v t;obtain rfl:kV=.none:=Dflts.noKw v;let(a,vs,ns,rfl,rfl,k,h,m):=IG z j y;$(enter_call (abR (call w di b mg i fa o pm g e a vs ns G Y B (fd_plain hd) u x k h m C) λr s' D=>?_));let(rfl,E,F,H):=D;$({ι {.bool true,.bool true,[],ρ,λ_=>rfl,.bool true,MK l _,λ_=>{abC,λ_ I=>(nomatch I)}},E,F,H})
end
theorem U1 (h:aeu vs ns):aH (ns.map V.int) vs:=by
 induction h with
 |nil=>$(.nil)
 |cons n t _ a=>$(.cons ⟨t,ρ⟩ a)
def A3(H:Hp):Prop:=∀b,H b=al\/∃o xs,H b=ac (.aZ o<|.L xs)
theorem Q3{P:hE}{w:iR}{K:e6}{mg y:ew->Option bt}{CX:gU}{k:Nat}{fa a:cA}{I:gi}{x:ew}{sp:Sp}{c:dq}{vs:List bt}{ns:List Int}
 (J:K.In c.heap)(p:c.heap.Ns hI mg)(f:c.heap.Ns ae7 y)(L:∀x:ew,x≠"__name__"->y x=C' x)(A:c.heap.NoLimit)(U:c.gens=#[])
 (B:c.heap.get? a=ac {cls:=.type "list",data:=.seq vs.toArray})(hi:aeu vs ns)(M:ns.length<=a9)(X:bS k acO)
 (F:∀base:k7,K.In base->base.Ns hI mg->aS P w K mg base CX k fa I [x] sp)(l:∀(s:dq) (u:bt),adu s I {[u],[]} [(x,u)])
 (N:∀H:Hp,A3 H->bV K H a (ns.map V.int)->sp [.ref a] H (λv _=>v=.bl true) λ_ _ _=>False)
 (O:∀H e s',CX [] H c (λ_ _ _=>False) e s'->False) :
  abo (hJ P w) acO (.call (.ref fa) {[.ref a],[]}) (λr s'=>r=.ok (.ret<|.bool true)/\OldK c.heap s'.heap/\s'.os=c.os/\abT s'.gens) c:=by
 let Q:=U1 hi;let C:=hi.length;let j:∀H:Hp,A3 H->bV K H a (ns.map V.int)->ck P w H c.heap->(∀b,H b≠al->b=a)->(H a≠al->K.lookup a=al) ->
   abo (hJ P w) acO (.call (.ref fa) {[.ref a],[]}) (λr s'=>r=.ok (.ret<|.bool true)/\OldK c.heap s'.heap/\s'.os=c.os/\abT s'.gens) c:=by
  ext H R Y aj hA hK;let g:∀{b:cA}{o:ua},c.heap.get? b=ac o->H b=al->(kC c.heap H).get? b=ac o:=λe n=>(λe n=>
    W.hideAll_get _ e λa=>by
     let q:=(gg.1 a).2
     simp!) e n
  let S:∀{b:cA}{o:ua}{D:Array aaT}{ep:Nat},c.heap.get? b=ac o->o.data=.dict D ep->H b=al:=by grind
  let i:∀{b:cA}{m:ew->Option bt},c.heap.Ns b m->(kC c.heap H).Ns b m:=λ{b m} ⟨o,D,ep,e,d,r⟩=>{o,D,ep,g e<|S e d,d,r}
  let t:K.In (kC c.heap H):=λb o e=>g (J b o e) (by grind)
  let Z:Mod K mg (kC c.heap H):={t,i p,{y,i f,L},let⟨mc,h1,h2⟩:=A;{mc,i h1,h2}};let e0:uH P w K mg (kC c.heap H) acO [] c H:={ρ,Z,λb o e=>QV e,afK<|(λh H=>W.hideAll_size _ _) _ _,trivial,λb f=>absurd (show b∈([]:List cA)from f) ⋯,aj,.of_eq U};$(abR ((F _ t<|i p).run acO [] c H {[.ref a],[]} [.ref a] [.ref a] _ _ X e0 (l c<|.ref a) (.cons ρ .nil) (N H R Y)) λr s' h=>?_);cases r with
  |error e=>$((O H e s' h).elim)
  |ok fl =>
   cases fl with
   |next=>$(KX h)
   |brk=>$(KX h)
   |cont=>$(KX h)
   |ret u =>
    let(v,H',os,bare,un,E,r',q):=h;let q':=q;$$q';obtain rfl:u=uy true:=r';$({ρ,OldK.of_keep λb o e=>?_,os,bare});cases q:H b with
    |none=>$(un.keep b o e q (by ext z;$(absurd (show b∈([]:List cA)from z) ⋯)) ⋯)
    |some u =>
     let z||(ob,xs,z):=R b
     .rw[q]at z;lk
     let(T,_):=aj b _ z;let(e2,_):=E b _<|un.ig b ob _ z;rw[e]at T;$$$$$$T;$e2
 cases G:K.lookup a with
 |some o=>let e:=J a o G;rw[B]at e;$$$$$$e;refine j (λ_=>al) (λ_=>ι ρ) (τ {_,vs.toArray,_,G,ρ,ρ,ρ,by rw[fv,C];$M,by$$$$Q}) (λb u z=>by simp!) (λb z=>absurd ρ z) λz=>absurd ρ z
 |none =>
  $(j (λb=>if b=a then ac (.aZ {cls:=.type "list",data:=.seq vs.toArray} (.L<|ns.map V.int))else al) (λb=>?_) (ι<|τ ⟨{cls:=.type "list",data:=.seq vs.toArray},if_pos ρ⟩) (λb u z=>?_) (λb z=>?_) λ_=>G)
  .ext(f:b=a)
   .$(τ {_,_,if_pos f})
   $(ι<|if_neg f)
  .ext(f:b=a)
   .let rfl:=sO<|(if_pos f).symm.trans z;$$f;$({B,by rw[a8];$M,vs,_,Q,B})
   simp!
  ext(f:b=a)
  .$f
  cases z (if_neg f)
theorem Vb{l:acG}{n k:Nat}{q:hE}{i:List ew}{E:(ew->Option bt)->k7->Prop}{t:iR->k7->Prop}{d:DefRec}{K:Params->e6}{CX:iR->gU}{sp:iR->Sp}{x:ew}
 (I:l.most=ac n)(y:n<=a9)(z:d.params.defaults=[])(J:bS k acO)
 (L:∀(w:iR) (h:k7),t w h->(K w.params).In h)
 (F:∀(w:iR) (mg:ew->Option bt) (fa:cA) (h:k7),(K w.params).In h->h.Ns hI mg->mg d.name=ac (.ref fa) ->
   ∃m:gi,(∀(s:dq) (u:bt),adu s m {[u],[]} [(x,u)]) /\
    ∀base:k7,(K w.params).In base->base.Ns hI mg->aS l.prog w (K w.params) mg base (CX w) k fa m [x] (sp w))
 (A:∀(w:iR) (H:Hp) (a:cA) (ns:List Int),ns.length<=n->A3 H->bV (K w.params) H a (ns.map V.int)->sp w [.ref a] H (λv _=>v=.bl true) λ_ _ _=>False)
 (B:∀(w:iR) (H:Hp) (s:dq) (e:bt) (s':dq),CX w [] H s (λ_ _ _=>False) e s'->False) :
  W.WalkO q i E t l.row.toRowW d [] (λf vs=>PySem.call f vs):=by
 $(NW I z λw di p mg mb fa o pm cd doc a vs ns G Y ho hd hcd C r j c M=>?_);let D:=L w _ Y;let(m,N,O):=F w mg fa _ D G.T.g C;$(Q3 D G.T.g G.T.b G.T.builtins G.T.nolimit M r j (m3 c y) J O N (λH P Q=>A w H a ns c P Q) λH e s'=>B w H p e s')
def rD(s:zR):Arguments:=match s with
 |.FunctionDef _ a _ _ _ _ _ _ _ _=>a
 |_=>{posonlyargs:=[],args:=[],vararg:=al,kwonlyargs:=[],kw_defaults:=[],kwarg:=al,defaults:=[]}
def jD(s:zR):List Stmt:=match s with
 |.FunctionDef _ _ b _ _ _ _ _ _ _=>b
 |_=>[]
def aI(s:zR):Scope:=match s with
 |.FunctionDef _ _ _ _ _ _ a _ _ _=>a
 |_=>{kind:=.function,names:=[],isGenerator:=false,isCoroutine:=false}
abbrev aT:gU:=λ_ _ _ _ _ _=>False
abbrev E0:XK:=λ_ _ _=>False
structure ba (K:e6) (x qual:ew) (st:zR) (f:cA) (fd:gi):Prop where
 ex:∃(oc:bt) (od:Option cA) (kV doc pm:bt) (an:Option cA) (cdv ct:bt) (osl:Array (Option bt)),
  fd=adk x qual (rD st) (jD st) (aI st) .none kV doc pm an cdv ct/\K.lookup f=ac {oc,od,.func fd,osl}/\afC K cdv qual=bd
 kp:acB K (.ref f)=bd
section
variable{P:hE}{w:iR}{K:e6}{mg:ew->Option bt}{base:k7}{X:Cx}{Ar:nL}{pins:List (cA×ua)}{σ:St}{H:Hp}{s:dq}{NB:List ew}{scope:Rr}{s₂:dq}{E:bt->dq->Prop}
def ba.ok{x a:ew}{st:zR}{f:cA}{c:gi}{N ps:List ew}{k:Nat}{sp:Sp}(F:ba K x a st f c)(S:bq N ps (aI st))(len:∀vs H Q E,sp vs H Q E->vs.length=ps.length)
 (b:∀(cdv:bt) (A:nL) (outer:List Env) (s:dq) (H:Hp) (vs:List V) (Q:VK) (E:XK),bS k (A.deeper<|HU a (aI st) s.heap.objs.size f cdv)->sp vs H Q E ->
   ∃t,da (jq aT P w K mg base N a (aI st) f cdv A outer s H E).ku (jD st) t/\t {nx:=λ_ g=>Q .aP g,rt:=Q} (start N vs) H):aS P w K mg base aT (k+1) f c ps sp:=by
 let(oc,od,kV,doc,pm,an,cdv,ct,osl,rfl,lk,d):=F.ex;$(J1 lk d S len λA outer s H vs Q E i e=>?_);let(t,h,q):=b cdv A outer s H vs Q E i e;$(⟨t,h.ku,q⟩)
def ba.binds{x a:ew}{st:zR}{f:cA}{e:gi}{ps:List ew}(F:ba K x a st f e)
 (h:∀(kV b pm:bt) (c:Option cA) (cdv ct:bt) (d:List bt),d.length=ps.length->af6 (adk x a (rD st) (jD st) (aI st) .none kV b pm c cdv ct) {d,[]}=pure (ps.zip d)):Binds K e ps []:=by
 let(oc,od,kV,b,pm,c,cdv,ct,osl,rfl,lk,hcd):=F.ex;$(.all<|h kV b pm c cdv ct)
def Qg{x a:ew}{st:zR}{f:cA}{g:bt}{h e:Option cA}{d:Array (Option bt)}{kV b pm cdv ct:bt}(l:K.lookup f=ac {g,h,.func<|adk x a (rD st) (jD st) (aI st) .none kV b pm e cdv ct,d})
 (c:afC K cdv a=bd)(k:acB K (.ref f)=bd):ba K x a st f (adk x a (rD st) (jD st) (aI st) .none kV b pm e cdv ct):={⟨g,h,kV,b,pm,e,cdv,ct,d,ρ,l,c⟩,k}
theorem pv(i:Nat){x:ew}{pos:q7}(b:X.N[i]?=ac x:=by rfl)(c:cw X.env.scope x:=by first|$(abW ρ)|$(acI (abW ρ))|$(acI<|acI ρ))(hd:bM x:=by decide)
 (a:cT x:=by decide):PE X (.Name x pos) (lV i):=eX b c hd a
def af(H a:Hp):Prop:=∀b o,H b=ac o->a b=ac o
def af.refl(H):af H H:=λ_ _ h=>h
def af.trans (a:af H d)(b:af d e):af H e:=λc o h=>b c o<|a c o h
abbrev HZ(ifs:List fA)(env:Env):Sem Bool:=forIn ifs true λt ok =>
 if ok=bd then(aej t env<|eval t env) >>= λb=>pure (.yield b)
 else pure (.yield ok)
abbrev nZ:bt->dq->Prop:=λ_ _=>False
theorem Rj (W:Nat->dq->Prop)(turn:∀n c,W n c->gW (hJ P w) Ar (abQ b) (λd g=>match d with
   |none=>j (.ok .next) g
   | some u=>gW (hJ P w) Ar (abV e b u)
     (λ_ l=>gW (hJ P w) Ar (aay e env u)
      (λ_ o=>gW (hJ P w) Ar (HZ ifs env)
       (λok h=>if ok=bd then gW (hJ P w) Ar (eval elt env)
         (λy p=>gW (hJ P w) Ar (call (.builtin "list.append") [a,y]) (λ_ q=>∃m,m<n/\W m q) nZ p) nZ h
        else∃m,m<n/\W m h) nZ o) nZ l) nZ g) nZ c)(r:Nat)(A:W r k):abo (hJ P w) Ar (.compLoop (.ListComp elt [{e,f,ifs,0}] i ps) 0 b a env) j k:=by
 $(codeAny_loop ρ W (λn c hw=>?_) r A);apply wpAny_noted;rw[compTurn_list];$(cn<|acv<|cn (za (turn n c hw) (λd g t=>?_) λ_ _ z=>z.elim));cases d with
 |none=>$(fj t)
 |some u =>
  $(cn (za t (λ_ l B=>?_) λ_ _ z=>z.elim));$(cn (za B (λ_ o C=>?_) λ_ _ z=>z.elim));$(cn (za C (λok h v=>?_) λ_ _ z=>z.elim));cases ok with
  |false=>$(fj (agq ρ v))
  |true=>$(cn<|cn (za v (λy p D=>?_) λ_ _ z=>z.elim));$(cn (za D (λ_ q F=>?_) λ_ _ z=>z.elim));$(fj<|fj<|agq ρ F)
theorem yt(env):∀(names:List (ew×ab')) (cs:List (ew×cA)),(∀y∈names,y.2=.free->∃c,env.cells.lookup y.1=ac c) ->
  (∀x c,cs.lookup x=ac c->env.cells.lookup x=ac c) ->
  ∃d:List (ew×cA),(forIn names cs (λ(x:ew×ab') (r:List (ew×cA))=>if(x.2==NameKind.free)=bd then(do let a <-cellOf env x.1;pure (adS ((x.1,a)::r)))else pure (adS r)):Sem (List<|ew×cA))=pure d /\
   (∀x c,d.lookup x=ac c->env.cells.lookup x=ac c)/\(∀x,(cs.lookup x).isSome=bd->(d.lookup x).isSome=bd)/\∀y∈names,y.2=.free->(d.lookup y.1).isSome=bd
 |[],cs,_,g=>{cs,⋯,g,λ_ h=>h,λ_ h=>by simp at h}
 | (n,k)::r,cs,m,g=>by
  let o:∀y∈r,y.2=.free->∃c,env.cells.lookup y.1=ac c:=λy b=>m y<|eH _ b;ext(u:k=.free)
  .$$u;let(c,v):=m (n,.free) eR ρ;let p:∀x q,((n,c)::cs).lookup x=ac q->env.cells.lookup x=ac q:=by grind
   let(d,t,i,e,j):=yt env r ((n,c)::cs) o p;$({d,?_,i,λx hx=>e x ?_,λy b l=>?_})
   .rw[acJ];let f:cellOf env n=pure c:=by$$(cellOf);rw[v]
    simp?[if_true,f,pure_bind];$t
   .rw[Ex];cases x==n<;>simp[hx]
   let rfl||b:=dV.1 b
   .$(e _ (by simp[Ex]))
   $(j y b l)
  let(d,t,i,e,j):=yt env r cs o g;$({d,?_,i,e,λy b l=>?_});simp!;let rfl||b:=dV.1 b;simp!;$(j y b l)
def D' (h:∀y∈scope.names,y.2=.free->∃c,env.cells.lookup y.1=ac c) :
  ∃a,closureFor scope env=pure a/\(∀x c,a.lookup x=ac c->env.cells.lookup x=ac c)/\∀y∈scope.names,y.2=.free->(a.lookup y.1).isSome=bd:=by
 let(a,b,d,_,f):=yt env scope.names [] h<|λ_ _ e=>by simp at e
 $({a,?_,d,f});dsimp[closureFor];simp?[<-b];simp?[bind_pure]
theorem qM [BEq a][LawfulBEq a]:∀{l:List (a×b)}{x:a}{k:b},l.lookup x=ac k->(x,k)∈l
 |[],_,_,h=>by simp at h
 | (n,k')::r,x,k,h=>by
  rw[Ex]at h;cases hx:x==n with
  |true=>simp!
  |false=>rw[hx]at h;$(eH _<|qM h)
theorem ym(env:Env):∀(names:List (ew×ab')) (x:ew),
  (names.map λ(n,k)=>if(k==NameKind.free&&env.scope.kind==.function&&env.kindOf n==some .cell)then(n,aep)else(n,k)).lookup x =
   (names.lookup x).map λk=>if(k==NameKind.free&&env.scope.kind==.function&&env.kindOf x==some .cell)then aep else k
 |[],_=>rfl
 | (n,k)::r,x=>by
  rw[fR];cases hx:x==n with
  |true =>
   let e:x=n:=by$$$$hx
   $$e;ext(a:(k==NameKind.free&&env.scope.kind==.function&&env.kindOf x==some .cell)=bd)
   .simp?[a,if_true,Ex,beq_self_eq_true,sj]
   simp?[a,if_false,Ex,beq_self_eq_true,sj,qp]
  |false =>
   let b:=ym env r x;ext(a:(k==NameKind.free&&env.scope.kind==.function&&env.kindOf n==some .cell)=bd)
   .simp?[a,if_true,Ex,hx];$b
   simp?[a,if_false,Ex,hx,qp];$b
def Oh (h:scope.names.lookup x=some .free):(acN scope env).names.lookup x=some .cell\/(acN scope env).names.lookup x=some .free:=by
 delta acN;simp?[ym,h];simp?[sj];split
 .$(ι ρ)
 $(τ ρ)
theorem Oi (a:∀y∈scope.names,y.2≠.cell)(h:(acN scope env).names.lookup x=some .cell\/(acN scope env).names.lookup x=some .free):scope.names.lookup x=some .free:=by
 unfold acN at h;rw[ym]at h;cases e:scope.names.lookup x with
 |none=>simp!
 |some k=>let hm:=a _<|qM e;grind
def cu(X:Cx)(NB:List ew)(scope:Rr)(b:List (ew×cA))(C:cA)(a:dq)(H:Hp)(c:List cA):Cx :=
 {X with N:=NB,di:=a,fK:=H,env:=compEnvC scope b C X.env,outer:=X.stack,ex:=c,fn:=λ_=>false,pn:=[],xe:=λ_ _=>False}
def fg(caps:List (Option Nat))(σ:St):St:=caps.map λo=>o.bind λj=>(σ[j]?).join
def gA(N NB:List ew)(a:Rr)(caps:List (Option Nat)):Bool :=
 caps.length==NB.length&&(lb caps.length).all λi=>match caps[i]? with
  |some (ac j)=>(match NB[i]?,N[j]? with|some x,ac y=>x==y&&a.names.lookup x==some .free|_,_=>false)
  |_=>true
def Uu (h:gA N NB a caps=bd):(fg caps σ).length=NB.length:=by delta gA at h;rw[ec]at h;simp[fg];$$$$(h.1)
theorem JU{N NB:List ew}{b:Rr}{σ:St}{caps:List (Option Nat)}{i:Nat}{x:ew}{v:V}(h:gA N NB b caps=bd)(f:NB[i]?=ac x)(a:(fg caps σ)[i]?=ac (ac v)) :
  b.names.lookup x=some .free/\∃j:Nat,N[j]?=ac x/\σ[j]?=ac (ac v)/\caps[i]?=ac (ac j):=by
 unfold gA at h;rw[ec]at h;unfold fg at a;rw[ee]at a;cases e:caps[i]? with
 |none=>rw[e]at a;$(nO a)
 |some o =>
  rw[e]at a;cases o with
  |none=>$$$a
  |some j =>
   let c:=(bg.1 e).1;let q:=ib.1 h.2 i<|aah.2 c;rw[e]at q;dsimp at q;rw[f]at q;cases d:N[j]? with
   |none=>simp!
   |some y =>
    rw[d]at q;simp?[ec]at q;let g:x=y:=by$$$$(q.1)
    $$g;$({by$$$$(q.2),j,d,?_,rfl});simp at a;cases k:σ[j]? with
    |none=>rw[k]at a;$(nO a)
    |some z=>simp!
structure i8 (sc:Rr) (scope:Rr):Prop where
 kind:scope.kind=.function
 EV:∀y∈scope.names,y.2≠.cell
 loc:∀y∈scope.names,y.2=.local->scope.names.lookup y.1=some .local
 free:∀y∈scope.names,y.2=.free->sc.names.lookup y.1=some .cell\/sc.names.lookup y.1=some .free
def Kv (I:Inv X pins σ H s)(S:i8 X.env.scope scope)(f:gA X.N NB scope caps=bd)(a:∀x c,B.lookup x=ac c->X.env.cells.lookup x=ac c)(t:∀y∈scope.names,y.2=.free->(B.lookup y.1).isSome=bd)(Q:d.Ns s.heap.objs.size λ_=>al)(keep:∀b o,s.heap.get? b=ac o->d.get? b=ac o)(g:∀b∈O,jl X pins H b/\b<s.heap.objs.size) :
  Inv (cu X NB scope B s.heap.objs.size s H O) [] (fg caps σ) H {s with heap:=d,toks:=tk}:=by
 let hC:X.env.locals<s.heap.objs.size:=I.lt;$(⟨{I.ok.mod,?_,I.ok.glob,I.ok.blt,eS _,λx y c C D=>?_,λx hx=>?_,λx c h=>?_,I.ok.hd,I.ok.frames,ι ρ,λb n=>?_,λb o e=>?_,m3 I.ok.jI I.sz,λb o e n=>?_,λb n V=>?_,I.stack,I.CY},
  ρ,I.bare,Un.kept keep,{_,Q,λi x v C D h3=>?_},λx c h=>?_,I.aj.fresh<|eS _,λx c h=>?_,λp W=>absurd (show p∈([]:List (cA×ua))from W) ⋯,I.aj.kept keep,Uu f⟩)
 .$S.kind
 .$(I.ok.inj x y c (a x c C)<|a y c D)
 .let q:=Oi S.EV hx;$(abb.1<|t _ (qM q) ρ)
 .$(absurd h (by show¬(false=bd);simp))
 .let((R,F,G,J,L,T),lt):=g b n;$({gk lt,λx c e=>L x c<|a x c e})
 .$(I.bs b o e)
 .let((R,F,G,J,L,T),lt):=g b n;let z||z:=J
  .$(I.ok.mT b o e z)
  $(absurd (hQ (hQ (e7 e) I.ok.jI) z)<|p5 _)
 .let((R,F,G,J,L,T),lt):=g b n;let z||z:=dV.1 (I.wg b V)
  .$(F z)
  $(G z)
 .let(q,j,Y,Z,_):=JU f C D;let(m,hn,hl):=I.loc;let hk:=S.free _ (qM q) ρ;let hv:cw X.env.scope x:=τ hk;let(u,r,l):=hl j x v Y Z hv;$({u,r,τ {Oh q,?_}});let(c,U):=abb.1<|t _ (qM q) ρ;$({c,U,?_});let(k,_)||(_,c',A,z):=l
  .let k:X.env.scope.names.lookup x=some .local:=k;simp!
  rw[a x c U]at A;$$$$$$A;let(o,M,hd):=z;$({o,keep c o M,hd})
 .let(v,o,M,hd):=I.cell x c<|a x c h;$({v,o,keep c o M,hd})
 $(I.fV x c<|a x c h)
def PF(X:Cx)(ifs:List fA)(t:TT):Prop :=
 ∀(pins:List (cA×ua)) (s:dq) (σ:St) (H:Hp) (Q:Bool->Hp->Prop),Inv X pins σ H s->t σ H Q ->
  gW (hJ X.prog X.w) X.A (HZ ifs X.env) (TP X pins σ Q) X.xe s
def RP:TT:=λ_ H Q=>Q true H
def NU:PF X [] RP:=λ_ _ _ H _ I h=>wpAny_tests_nil ⟨H,I,h⟩
def Uv (h:PT X c t):PF X [c] t:=λpins s σ H Q I a=>wpAny_tests_one<|h pins s σ H Q I a
def vt(caps:St->St)(l:TI)(g:TG)(tc:TT)(te:TE):TE:=λσ H Q=>l σ H λJ h=>∀D,h D=al->∃W:Nat->Nat->St->Hp->Prop,
 (∃m,W 0 m (caps σ)<|upd h D<|.L [])/\∀i m e c,W i m e c ->
  (J.stop i c/\Q (.ref D) c)\/(J.go i c/\∀x f,J.lJ i c x f->g x e f λa n=>tc a n λb j =>
   if b=bd then te a j λy k=>∃ys,k D=ac (.L ys)/\ys.length<a9/\∃d,d<m/\W (i+1) d a (upd k D<|.L<|ys++[y])
   else∃d,d<m/\W (i+1) d a j)
theorem DC{caps:List (Option Nat)}{elt iter tg:fA}{ifs:List fA}{pos:q7}{it:cA}{f:List cA}{Y:Nat->k7->Prop}{J:It}{j:Hp}{g:TG}{tc:TT}{te:TE}{k:List (ew×cA)}{Q:VK}{RR:bt->cA->aen->dq->Prop}
 (I2:Inv X pins σ j s₂)(T:Turn X.prog X.w X.K tg J f it Y)(Wh:Y 0 s₂.heap)(f2:∀b∈f,jl X pins j b)(hc:X.calm=bd)(S:i8 X.env.scope scope)(Wr:gA X.N NB scope caps=bd)
 (Wi:∀x c,k.lookup x=ac c->X.env.cells.lookup x=ac c)(WH:∀y∈scope.names,y.2=.free->(k.lookup y.1).isSome=bd)
 (h:∀(k:List (ew×cA)) (C:cA) (a:dq) (H:Hp) (f:List cA),PG (cu X NB scope k C a H f) tg g/\PF (cu X NB scope k C a H f) ifs tc/\PE (cu X NB scope k C a H f) elt te)
 (hW:∀D,j D=al->∃W:Nat->Nat->St->Hp->Prop,(∃m,W 0 m (fg caps σ)<|upd j D<|.L [])/\∀i m I l,W i m I l ->
   (J.stop i l/\Q (.ref D) l)\/(J.go i l/\∀x Wj,J.lJ i l x Wj->g x I Wj λR j=>tc R j λb H3 =>
    if b=bd then te R H3 λy H4=>∃ys,H4 D=ac (.L ys)/\ys.length<a9/\∃G,G<m/\W (i+1) G R (upd H4 D<|.L<|ys++[y])
    else∃G,G<m/\W (i+1) G R H3))
 (WK:∀D C l s' m,Inv X pins σ l s'->s'.heap.Ns C m->jl X pins l C->Q (.ref D) l->RR (.ref D) C (.ok .next) s') :
  gW (hJ X.prog X.w) X.A (newList []) (λWk a=>gW (hJ X.prog X.w) X.A (newFunctionEnv scope X.env.globals k [] X.env.qual none .none<|ac X.env) (λV7 M =>
   abo (hJ X.prog X.w) X.A (.compStart (.ListComp elt [{tg,iter,ifs,0}] scope pos) 0 (.ref it) Wk {V7 with scope:=acN scope X.env}) (RR Wk V7.locals) M) E a) E s₂:=by
 $(yv<|wpAny_newFunctionEnv S.EV (by ext y hy;simp at hy) (λt B F=>?_) S.kind);let I3:Inv X pins σ (upd j s₂.heap.objs.size<|.L []) {s₂ with heap:=s₂.heap.push {cls:=.type "list",data:=.seq ([]:List bt).toArray},toks:=s₂.toks} :=
  I2.sx .nil (rp _)
 let(W,(m0,w0),hW):=hW s₂.heap.objs.size I2.fresh;generalize V8:({s₂ with heap:=s₂.heap.push {cls:=.type "list",data:=.seq ([]:List bt).toArray},toks:=s₂.toks}:dq)=a at I3;let V9:=congrArg (·.heap) V8;let et3:=congrArg (·.toks) V8;let hsz:s₂.heap.objs.size<a.heap.objs.size:=by rw[<-V9,aa1];$(abk _)
 (try rw[V9]at B F)
 let keep:∀b o,a.heap.get? b=ac o->t.get? b=ac o:=λb o e=>F.extBut b o (gk<|e7 e)<|eJ _ e;let WL:∀b o,s₂.heap.get? b=ac o->a.heap.get? b=ac o:=λb o e=>by rw[<-V9];$(eJ _ e)
 let U:∀b∈f,jl X pins (upd j s₂.heap.objs.size<|.L []) b/\b<a.heap.objs.size:=λb h=>by let(o,e,_):=T.obj _ _ Wh b h;let lt:=e7 e;$({{by rw[aA (gk lt)];$((f2 b h).1),(f2 b h).2},aaA lt hsz})
 let WM:=T.keep _ _ _ Wh λb _ o e=>keep b o<|WL b o e;let WN:=B;let IB:Inv (cu X NB scope k a.heap.objs.size a (upd j s₂.heap.objs.size<|.L []) f) [] (fg caps σ) (upd j s₂.heap.objs.size<|.L []) {a with heap:=t,toks:=a.toks+([]:List (ew×bt)).length} :=
  Kv I3 S Wr Wi WH WN keep U
 let rE:Y 0 ({a with heap:=t,toks:=a.toks+([]:List (ew×bt)).length}:dq).heap:=WM;generalize ({a with heap:=t,toks:=a.toks+([]:List (ew×bt)).length}:dq)=M at IB rE ⊢;let V':∀{l:Hp},(∀b∈f,l b=al)->∀b∈f,jl (cu X NB scope k a.heap.objs.size a (upd j s₂.heap.objs.size<|.L []) f) [] l b:=λhn b h=>by
  let((f0,f1,Wl,f3,f4,f5),lt):=U b h;$({hn b h,gk lt,λhm=>?_,ι h,λx c e=>f4 x c<|Wi x c e,λp hp=>absurd (show p∈([]:List (cA×ua))from hp) ⋯});let z||z:=dV.1 (I2.wg b hm)
  .$(f1 z)
  $(Wl z)
 let(bG,bF,bE):=h k a.heap.objs.size a (upd j s₂.heap.objs.size<|.L []) f;let Wb:abo (hJ X.prog X.w) X.A (.compLoop (.ListComp elt [{tg,iter,ifs,0}] scope pos) 0 (.ref it) (.ref s₂.heap.objs.size)<|compEnvC scope k a.heap.objs.size X.env) (RR (.ref s₂.heap.objs.size) a.heap.objs.size) M:=by
  $(Rj (λn s'=>∃i I l,Inv (cu X NB scope k a.heap.objs.size a (upd j s₂.heap.objs.size<|.L []) f) [] I l s'/\Y i s'.heap/\(∀b∈f,l b=al)/\W i n I l) ?_ m0
   {0,_,_,IB,rE,λb h=>(U b h).1.1,w0})
  ext n s5 ⟨i,V,H5,I5,Wm,Wn,w5⟩;let(stop,q)||(go,step):=hW i n V H5 w5
  .$(aF (T.done (cu X NB scope k a.heap.objs.size a (upd j s₂.heap.objs.size<|.L []) f) ρ ρ ρ hc i [] s5 V H5 (λ_ _=>False) I5 (V' Wn) Wm stop) λr s6 h=>?_);let(hr,Z):=h;$$hr;let(m,hn,_):=Z.loc;$(WK _ _ H5 s6 m ?_ hn (I3.kB (eS _) Z.free) q);$(I3.MC Z.os Z.base Z.aj Z.bare λb h=>?_);let((f0,f1,Wl,f3,f4,f5),lt):=U b h;$(⟨f3,f1,f4,f5⟩)
  $(aF (T.item (cu X NB scope k a.heap.objs.size a (upd j s₂.heap.objs.size<|.L []) f) ρ ρ ρ hc i [] s5 V H5 (λ_ _=>False) I5 (V' Wn) Wm go) λr s6 h=>?_);let(u,hr,h6):=h;$$hr;$(aF h6 λ_ s7 h=>?_);let(x,H7,I7,r7,y7,Wc,WY):=h;let WZ:=I7.pinned (V' WY)<|T.obj _ _ Wc;let back:∀{Wd:St}{O:Hp}{s9:dq},Inv (cu X NB scope k a.heap.objs.size a (upd j s₂.heap.objs.size<|.L []) f) ([]++qY f s7.heap) Wd O s9 ->
    Inv (cu X NB scope k a.heap.objs.size a (upd j s₂.heap.objs.size<|.L []) f) [] Wd O s9/\Y (i+1) s9.heap/\∀b∈f,O b=al:=λ{Wd O s9} I9=>by
   $({I9.uE,T.keep _ _ _ Wc λb h o e=>(I9.pin (b,o)<|mA _<|mA _<|uu h e).1,λb h=>?_});let(o,e,d):=T.obj _ _ Wc b h;$((I9.pin (b,o)<|mA _<|mA _<|uu h e).2.1)
  $(aF (bG _ s7 V H7 x u _ WZ r7<|step x H7 y7) λ_ s8 h=>?_);let(L,H8,I8,q8):=h;$(aF (bF _ s8 L H8 _ I8 q8) λok s9 h=>?_);let(O,I9,q9):=h;cases ok with
  |false=>let(G,hm,w9):=q9;let(a1,a2,a3):=back I9;$({G,hm,i+1,L,O,a1,a2,a3,w9})
  |true=>$(aF (bE _ s9 L O _ I9 q9) λv W2 h=>?_);let(y,Wo,W3,W4,ys,hD,hz,G,hm,W5):=h;$(aF (EL _ W2 L Wo (.ref s₂.heap.objs.size) [y] (.ref s₂.heap.objs.size) [v] (λ_ Wp=>Wp=upd Wo s₂.heap.objs.size (.L<|ys++[y])) W3 ρ (.cons W4 .nil) {_,ys,y,ρ,ρ,hD,hz,ρ}) λ_ s11 h=>?_);let(_,Wp,W6,_,W7):=h;$$W7;let(a1,a2,a3):=back W6;$({G,hm,i+1,L,_,a1,a2,a3,W5})
 $(codeAny_compStart_list Wb<|T.self _ 0 _ _ _ rE Wb)
end
section
variable{X:Cx}{NB:List ew}{caps:List (Option Nat)}{scope:Rr}{elt iter tg:fA}{ifs:List fA}{pos:q7}{wi:TI}{g:TG}{tc:TT}{te:TE}{P:hE}{w:iR}{H:Hp}{h h':k7}{a:cA}{o:HO}{pins:List (cA×ua)}{σ:St}{s:dq}
def F5(B:X.calm=bd)(S:i8 X.env.scope scope)(j:gA X.N NB scope caps=bd)(hi:PI X tg iter wi)
 (k:∀(d:List (ew×cA)) (C:cA) (c:dq) (H:Hp) (f:List cA),PG (cu X NB scope d C c H f) tg g/\PF (cu X NB scope d C c H f) ifs tc/\PE (cu X NB scope d C c H f) elt te)
 (E:∀x,pw iter X.env x=pure x:=by ext _;rfl):PE X (.ListComp elt [{tg,iter,ifs,0}] scope pos) (vt (fg caps) wi g tc te):=by
 ext pins s σ H Q I h;let(d,i,r,t):=D'<|λy F l=>I.ok.has y.1<|S.free y F l;$(adU ρ E i S.kind S.loc (aF (hi pins s σ H _ I h) λxv s₁ n=>aF n λitv s₂ p=>?_));let(it,f,tn,J,H2,rfl,G,T,u,K,L):=p;apply DC G T u K B S j r t k L;ext D C M s' m O R l q;$({m,R,λh' z=>{.ref D,M,?_,ρ,q}});let(U,V,f2',W,Y,Z):=l;$(O.turned (λb o k e=>(z.2 b k).trans e) U V W Y Z)
def J4 (hN:X.N.Nodup)(F:X.N[i]?=ac y)(n:Loc X.env.scope y)(hc:X.calm=bd)(S:i8 X.env.scope scope)(p:gA X.N NB scope caps=bd)(hi:PI X tg iter wi)(r:∀(j:List (ew×cA)) (C:cA) (c:dq) (H:Hp) (k:List cA),PG (cu X NB scope j C c H k) tg g/\PF (cu X NB scope j C c H k) ifs tc/\PE (cu X NB scope j C c H k) elt te)(G:um (.ListComp elt [{tg,iter,ifs,0}] scope pos) (ac<|.Name y py) d.line X.env=pure true)(hs:∀x,pw iter X.env x=pure x:=by ext _;rfl)(t:X.fn y=bd\/X.env.scope.names.lookup y=some .local:=by first|$(ι ρ)|$(τ ρ)|assumption) :
  PS X (.Assign [.Name y py] (.ListComp elt [{tg,iter,ifs,0}] scope pos) d) (qQ (vt (fg caps) wi g tc te)<|kX i):=by
 ext pins s σ H D I h;let(j,l,K,L):=D'<|λy n t=>I.ok.has y.1<|S.free y n t;rw[exec_Assign_Name_used _ _ _ _ G];$(cn<|acv<|cn ?_);show gW _ X.A (do let _ <-comprehension (.ListComp elt [{tg,iter,ifs,0}] scope pos) scope X.env _ (newList []) false (eval iter X.env) (ac<|aay (.Name y py) X.env)) _ _ s;$(cn (za (adU ρ hs l S.kind S.loc (aF (hi pins s σ H _ I h) λxv s₁ u=>aF u λitv s₂ B=>?_)) (λ_ s' hq=>fj<|fj hq) λ_ _ e=>e));let(it,k,tn,J,H2,rfl,I2,T,M,f2,hW):=B;apply DC (Q:=λx H1=>kX i x σ H1 D.nx) I2 T M f2 hc S p K L r hW;ext R C H' s' m I' hn U q;let(f0,V,f2',f3,W,f5):=U;$(afj<|E2 (v:=.ref R) I' hN F n ρ (λY Z f=>?_) t);let(a,f,ha):=f;let be:C≠a:=by
  ext rfl;let z||z:=ha
  .$(V z)
  $(W _ _ z ρ)
 $({m,hn.sameBut f be,λh' E=>?_});$({_,H',Z.turned (λb o r e=>(E.2 b r).trans e) f0 V f3 W f5,q})
theorem cN.alive(x:cN P w H h a o):∃u,h.get? a=ac u:=by
 cases o with
 |L xs=>let(z,its,n,r,e):=x;$({_,e})
 |U xs=>let(z,its,r,b,e,c):=x;$({_,e})
 |dK kvs=>let(z,y,vs,r,b,i,ep,e,c):=x;$({_,e})
 |dT kvs=>let(z,y,xs,r,b,i,ep,e,c):=x;$({_,e})
 |set S n=>let(b,i,ep,t,e,c):=x;$({_,e})
 |ins C dx fs=>let(d,z,ne,e,j,_):=x;$({_,e})
 |O y=>$x
 |xd fs=>let(j,(od,i,ep,e,c),r):=x;$({_,e})
 |qH lo hi=>let(t,u,v,e):=x;$({_,e})
 |aZ b u=>let(e,q):=x;$({_,e})
 |kZ ps=>$({_,x})
 |met f y=>$({_,x})
 |ext φ=>let(p,e,st):=x;$e
def ck.tracked(x:ck P w H h)(k:∀b u,H b≠al->h.get? b=ac u->h'.get? b=ac u):ck P w H h':=λc d e =>
 (x c d e).hX (λb u f q=>k b u (by
  let z||z:=f
  .rw[z,e];simp
  rw[z];simp) q) (λ_ q=>q) λ_ _ q=>q
theorem ck.dead(x:ck P w H h)(e:h.get? a=al):H a=al:=by
 cases q:H a with
 |none=>rfl
 |some u=>let(v,z):=(x a u q).alive;rw[e]at z;$(nO z)
structure Flt (av:List cA) (H:Hp) (h₀:k7) (a:cA) (cls fl:bt) (h:k7):Prop where
 ex:∃(a0:bt) (T:cA) (oe oT:ua) (vs ts:Array bt),h.get? a=ac oe/\oe.cls=cls/\oe.data=.fields vs/\vs[0]?=ac a0/\vs[1]?=ac (.ref T)/\T≠a/\h.get? T=ac oT/\oT.data=.fields ts/\ts[3]?=ac fl/\H T=al/\h₀.get? T=al/\T∉av
 na:H a=al
 nw:h₀.get? a=al
 nv:a∉av
abbrev VC(X:Cx)(pins:List (cA×ua)):List Addr:=(X.pn++pins).map (·.1)
end
def LN(X:Cx)(d:St)(c:bt)(a:cA)(H:Hp):Prop:=∀(b:List (cA×ua)) (s:dq),Inv X b d H s->Flt (VC X b) H X.di.heap a c .none s.heap->X.xe (.ref a) s
def O7(X:Cx)(c:St)(C:cA)(H:Hp):Prop:=∀(b:List (cA×ua)) (s:dq) (h':k7) (a:cA) (vs:List bt),Inv X b c H s->Heap.MadeExcOf s.heap h' a (.ref C) vs->X.xe (.ref a) {s with heap:=h'}
def Vi(a:cA)(cls:bt)(h:k7):Prop:=∃o vs,h.get? a=ac o/\o.cls=cls/\o.data=.fields vs
def excAt(a:cA)(b:bt):HO:=.ext<|Vi a b
section
variable{X:Cx}{pins:List (cA×ua)}{σ:St}{H:Hp}{s:dq}{K:e6}{H':Hp}{H0:Hp×Hp}{Hi:Hp}{ps:Nat->Option cA}{Z:DS}
abbrev Cx.kL(X:Cx)(pn:List (cA×ua))(E:bt->dq->Prop):Cx:={X with pn:=pn,xe:=E}
def Inv.kL (I:Inv X pins σ H s):Inv (X.kL (X.pn++pins) E) [] σ H s :=
 {⟨I.ok.mod,I.ok.kind,I.ok.glob,I.ok.blt,I.ok.above,I.ok.inj,I.ok.has,I.ok.mP,I.ok.hd,I.ok.frames,I.ok.oY,I.ok.vH,I.ok.bs,I.ok.jI,I.ok.mT,I.ok.qj,I.ok.gH,I.ok.lU⟩,I.os,I.bare,I.base,I.loc,I.cell,I.free,I.fV,by$$$$I.pin,I.aj,I.len}
def Inv.pL (I:Inv (X.kL (X.pn++pins) E) a σ H s):Inv X pins σ H s :=
 {⟨I.ok.mod,I.ok.kind,I.ok.glob,I.ok.blt,I.ok.above,I.ok.inj,I.ok.has,I.ok.mP,I.ok.hd,I.ok.frames,I.ok.oY,I.ok.vH,I.ok.bs,I.ok.jI,I.ok.mT,I.ok.qj,I.ok.gH,I.ok.lU⟩,I.os,I.bare,I.base,I.loc,I.cell,I.free,I.fV,λp b=>I.pin p<|aaP _ b,I.aj,I.len}
theorem SP.pL (h:SP (X.kL (X.pn++pins) E) b D f s'):SP X pins D f s':=by
 cases f with
 |next=>let(a,H',I,q):=h;$(⟨a,H',I.pL,q⟩)
 |brk=>let(a,H',I,q):=h;$(⟨a,H',I.pL,q⟩)
 |cont=>let(a,H',I,q):=h;$(⟨a,H',I.pL,q⟩)
 |ret u=>let(v,a,H',I,r,q):=h;$(⟨v,a,H',I.pL,r,q⟩)
def zy(X:Cx)(c:List aaY)(Q:Flow->dq->Prop):bt->dq->Prop:=λe d =>
 gW (hJ X.prog X.w) X.A (noteFrame e X.env) (λ_ a=>gW (hJ X.prog X.w) X.A (setFlight e al) (λ_ b=>gW (hJ X.prog X.w) X.A (handleBy e X.env c) Q X.xe b) X.xe a) X.xe d
def L5(X:Cx)(a:List aaY)(tb:List (cA×ua)->(bt->dq->Prop)->TS):TS:=λD σ H=>∀pins,tb (X.pn++pins) (zy X a<|SP X pins D) D σ H
theorem Nv{body:List zR}{h₀:aaY}{a:List aaY}{pos:q7}{tb:List (cA×ua)->(bt->dq->Prop)->TS}(d:∀pn b,da (X.kL pn b) body<|tb pn b):PS X (.Try body (h₀::a) [] [] pos) (L5 X (h₀::a) tb):=by
 ext pins s σ H D I h;$(wpAny_Try_except ?_);$(za (d (X.pn++pins) (zy X (h₀::a)<|SP X pins D) [] s σ H D I.kL<|h pins) (λf g q=>?_) λe g q=>q);let q:=SP.pL q;cases f with
 |next=>let(c,H',i,j):=q;$(aa6 ⟨c,H',i,j⟩)
 |brk=>$q
 |cont=>$q
 |ret u=>$q
inductive Dat where
 |aP|bl (b:Bool)|int (i:Int)|str (x:ew)
 |U (xs:List Dat)|L (xs:List Dat)|cg (ks:List (ew×Dat))
 |exc (C:cA)
 |ins (C:cA×cA) (fs:List (ew×Dat))
 |cM (ns:List Int)
 |adr (p:cA)
 /-- a dict that is gone through: its object stays as it is -/
 |eQ (ks:List (ew×Dat))
 /-- a dict whose keys are tuples of texts;fz: gone through,its object stays as it is -/
 |bA (fz:Bool) (ks:List (List ew×Dat))
mutual
/-- the value v is the datum d,over the heap H (and the module's own objects) -/
def Rep(K:e6)(H:Hp):Dat->V->Prop
 |.aP,v=>v=.aP
 |.bl b,v=>v=.bl b
 |.int i,v=>v=.int i
 |.str x,v=>v=.str x
 |.U ds,v=>∃p vs,v=.ref p/\bj K H p vs/\aw K H ds vs
 |.L ds,v=>∃p vs,v=.ref p/\Rd H p (.L vs)/\aw K H ds vs
 |.cg a,v=>∃p kvs,v=.ref p/\H p=ac (.dK kvs)/\bN K H a kvs
 |.exc C,v=>∃p,v=.ref p/\H p=ac (excAt p<|.ref C)
 |.ins C fs,v=>∃p c vs,v=.ref p/\H p=ac (.ins C.1 c vs)/\mz K H fs vs/\p=C.2
 |.cM ns,v=>∃p,v=.ref p/\bV K H p (ns.map V.int)
 |.adr p,v=>v=.ref p
 |.eQ a,v=>∃p o kvs,v=.ref p/\H p=ac (.aZ o<|.dK kvs)/\bN K H a kvs
 |.bA fz a,v=>∃p o kvs,v=.ref p/\H p=ac (if fz then .aZ o (.dT kvs)else .dT kvs)/\bW K H a kvs
def aw(K:e6)(H:Hp):List Dat->List V->Prop
 |[],vs=>vs=[]
 |d::ds,vs=>∃v r,vs=v::r/\Rep K H d v/\aw K H ds r
def bN(K:e6)(H:Hp):List (ew×Dat)->List (Key×V)->Prop
 |[],kvs=>kvs=[]
 |(k,d)::a,kvs=>∃v r,kvs=(px k,v)::r/\Rep K H d v/\bN K H a r
def bW(K:e6)(H:Hp):List (List ew×Dat)->List (List Key×V)->Prop
 |[],kvs=>kvs=[]
 |(k,d)::a,kvs=>∃v r,kvs=(k.map px,v)::r/\Rep K H d v/\bW K H a r
def mz(K:e6)(H:Hp):List (ew×Dat)->List (ew×V)->Prop
 |[],kvs=>kvs=[]
 |(k,d)::a,kvs=>∃v r,kvs=(k,v)::r/\Rep K H d v/\mz K H a r
end
def bj.mono (s:af H H')(h:bj K H p vs):bj K H' p vs:=by
 let(h||(o,h))||h:=h
 .$(ι<|ι<|s _ _ h)
 .$(ι<|τ ⟨o,s _ _ h⟩)
 $(τ h)
def bV.mono (s:af H H')(h:bV K H p vs):bV K H' p vs:=by
 let(h||(o,h))||h:=h
 .$(ι<|ι<|s _ _ h)
 .$(ι<|τ ⟨o,s _ _ h⟩)
 $(τ h)
def Rd.mono (s:af H H')(h:Rd H p u):Rd H' p u:=by
 let h||(o,h):=h
 .$(ι<|s _ _ h)
 $(τ {o,s _ _ h})
mutual
theorem Rep.mono(s:af H H'):∀{d:Dat}{v:V},Rep K H d v->Rep K H' d v
 |.aP,_,h=>h
 |.bl _,_,h=>h
 |.int _,_,h=>h
 |.str _,_,h=>h
 |.U _,_,h=>by let(p,vs,e,q,r):=h;exact{p,vs,e,bj.mono s q,aw.mono s r}
 |.L _,_,h=>by let(p,vs,e,q,r):=h;exact{p,vs,e,Rd.mono s q,aw.mono s r}
 |.cg _,_,h=>by let(p,kvs,e,q,r):=h;exact{p,kvs,e,s _ _ q,bN.mono s r}
 |.exc _,_,h=>by let(p,e,q):=h;exact{p,e,s _ _ q}
 |.ins _ _,_,h=>by let(p,b,vs,e,q,r,z):=h;exact{p,b,vs,e,s _ _ q,mz.mono s r,z}
 |.cM _,_,h=>by let(p,e,q):=h;exact{p,e,bV.mono s q}
 |.adr _,_,h=>h
 |.eQ _,_,h=>by let(p,o,kvs,e,q,r):=h;exact{p,o,kvs,e,s _ _ q,bN.mono s r}
 |.bA _ _,_,h=>by let(p,o,kvs,e,q,r):=h;exact{p,o,kvs,e,s _ _ q,bW.mono s r}
theorem aw.mono(s:af H H'):∀{ds:List Dat}{vs:List V},aw K H ds vs->aw K H' ds vs
 |[],_,h=>h
 |_::_,_,h=>by let(v,r,e,q,t):=h;exact{v,r,e,Rep.mono s q,aw.mono s t}
theorem bN.mono(s:af H H'):∀{a:List (ew×Dat)}{kvs:List (Key×V)},bN K H a kvs->bN K H' a kvs
 |[],_,h=>h
 |(_,_)::_,_,h=>by let(v,r,e,q,t):=h;exact{v,r,e,Rep.mono s q,bN.mono s t}
theorem bW.mono(s:af H H'):∀{a:List (List ew×Dat)}{kvs:List (List Key×V)},bW K H a kvs->bW K H' a kvs
 |[],_,h=>h
 |(_,_)::_,_,h=>by let(v,r,e,q,t):=h;exact{v,r,e,Rep.mono s q,bW.mono s t}
theorem mz.mono(s:af H H'):∀{a:List (ew×Dat)}{kvs:List (ew×V)},mz K H a kvs->mz K H' a kvs
 |[],_,h=>h
 |(_,_)::_,_,h=>by let(v,r,e,q,t):=h;exact{v,r,e,Rep.mono s q,mz.mono s t}
end
theorem aw.length:∀{ds:List Dat}{vs:List V},aw K H ds vs->vs.length=ds.length
 |[],_,h=>by rw[show _=[]from h];rfl
 |_::_,_,⟨v,r,e,q,t⟩=>by rw[e,fq,fq,aw.length t]
theorem aw.append:∀{ds a:List Dat}{vs b:List V},aw K H ds vs->aw K H a b->aw K H (ds++a) (vs++b)
 |[],_,_,_,h,h'=>by rw[show _=[]from h];$h'
 |_::_,_,_,_,⟨v,r,e,q,t⟩,h'=>{v,r++_,by rw[e];rfl,q,aw.append t h'}
theorem aw.get{ds:List Dat}{vs:List V}{i:Nat}{d:Dat}(h:aw K H ds vs)(e:ds[i]?=ac d):∃v,vs[i]?=ac v/\Rep K H d v:=by
 induction ds generalizing vs i with
 |nil=>simp at e
 |cons _ _ a =>
  let(v,r,rfl,q,t):=h;cases i with
  |zero=>simp at e;$$e;$(⟨v,ρ,q⟩)
  |succ i=>$(a (vs:=r) (i:=i) t (by$$$$e))
theorem aw.set (i:Nat)(h:aw K H ds vs)(q:Rep K H d v):aw K H (ds.set i d) (vs.set i v):=by
 induction ds generalizing vs i with
 |nil=>rw[show vs=[]from h];$ρ
 |cons _ _ a =>
  let(v,r,rfl,p,t):=h;cases i with
  |zero=>$({_,r,ρ,q,t})
  |succ i=>$({v,_,ρ,p,a i t})
inductive Slot where
 /-- nothing,data,a list or dict that this frame owns (its content),one that the caller owns and lends -/
 |no|D (d:Dat)|O (d:Dat)|io (d:Dat)
abbrev DS:=List Slot
inductive Res where
 |D (d:Dat)|O (d:Dat)
def Res.val:Res->Dat
 |.D d=>d
 |.O d=>d
def cC(K:e6)(H Hi:Hp)(p:cA):Dat->Prop
 |.L ds=>∃vs,H p=ac (.L vs)/\aw K Hi ds vs/\Hi p=al
 |.cg a=>∃kvs,H p=ac (.dK kvs)/\bN K Hi a kvs/\Hi p=al
 |.bA fz a=>fz=bi/\∃kvs,H p=ac (.dT kvs)/\bW K Hi a kvs/\Hi p=al
 |_=>False
def jO(Hi H:Hp)(p:cA)(o:HO):Prop:=Hi p=ac o\/H p=al\/∃vs,o=.U vs
def fY(ps:Nat->Option cA)(p:cA):Prop:=∃i,ps i=ac p
structure SR (K:e6) (H0:Hp×Hp) (ps:Nat->Option cA) (Z:DS) (σ:St) (H Hi:Hp):Prop where
 sub:af Hi H
 keep:∀b o,H0.1 b=ac o->¬fY ps b->H b=ac o
 eF:∀p,fY ps p->H p≠al
 D:∀(i:Nat) (d:Dat),Z[i]?=ac (.D d)->∃v,σ[i]?=ac (ac v)/\Rep K Hi d v
 O:∀(i:Nat) (c:Dat),Z[i]?=ac (.O c)->∃p,σ[i]?=ac (ac<|.ref p)/\cC K H Hi p c/\¬fY ps p/\H0.1 p=al
 io:∀(i:Nat) (c:Dat),Z[i]?=ac (.io c)->∃p,σ[i]?=ac (ac<|.ref p)/\cC K H Hi p c/\ps i=ac p
 ne:∀(i j:Nat) (c c':Dat) (p:cA),(Z[i]?=ac (.O c)\/Z[i]?=ac (.io c))->(Z[j]?=ac (.O c')\/Z[j]?=ac (.io c'))->σ[i]?=ac (ac<|.ref p)->σ[j]?=ac (ac<|.ref p)->i=j
 len:Z.length=σ.length
 nw:∀p o,Hi p=ac o->jO H0.2 H0.1 p o
def RR(K:e6)(H0:Hp×Hp)(ps:Nat->Option cA)(Z:DS)(σ:St)(H Hi:Hp)(v:V):Res->Prop
 |.D d=>Rep K Hi d v
 |.O c=>∃p,v=.ref p/\cC K H Hi p c/\¬fY ps p/\H0.1 p=al/\∀(i:Nat) (a:Dat),(Z[i]?=ac (.O a)\/Z[i]?=ac (.io a))->σ[i]?≠ac (ac<|.ref p)
theorem cC.some{p:cA}{c:Dat}(h:cC K H Hi p c):(∃o,H p=ac o)/\Hi p=al:=by
 cases c with
 |L ds=>let(vs,e,_,n):=h;$({{_,e},n})
 |cg a=>let(vs,e,_,n):=h;$({{_,e},n})
 |bA fz a=>let(_,vs,e,_,n):=h;$({{_,e},n})
 |_=>$h.elim
theorem cC.nt{p:cA}{c:Dat}{vs:List V}(h:cC K H Hi p c)(e:H p=Option.some (.U vs)):False:=by
 cases c with
 |L ds=>let(vs,q,_):=h;simp!
 |cg a=>let(vs,q,_):=h;simp!
 |bA fz a=>let(_,vs,q,_):=h;simp!
 |_=>$h.elim
theorem cC.keeps{H' a:Hp}{p:cA}{c:Dat}(h:cC K H Hi p c)(e:H' p=H p)(s:af Hi a)(n:a p=al):cC K H' a p c:=by
 cases c with
 |L ds=>let(vs,q,r,_):=h;$({vs,e.trans q,aw.mono s r,n})
 |cg b=>let(vs,q,r,_):=h;$({vs,e.trans q,bN.mono s r,n})
 |bA fz b=>let(z,vs,q,r,_):=h;$({z,vs,e.trans q,bW.mono s r,n})
 |_=>$h.elim
def j6 (h:H p=al):af H (upd H p o):=λb u e=>by rwa[aA (df e h)]
def zJ (s:af Hi H):af (upd Hi p o) (upd H p o):=λb u e=>by
 ext(a:b=p)
 .$$a;rw[bw]at e ⊢;$e
 rw[aA a]at e ⊢;$(s b u e)
def Hr (s:af Hi H)(h:H p=ac o):af (upd Hi p o) H:=λb u e=>by
 ext(a:b=p)
 .$$a;rw[bw]at e;$(h.trans e)
 rw[aA a]at e;$(s b u e)
def tZ (s:af Hi H)(h:Hi p=al):af Hi (upd H p o):=λb u e=>by rw[aA (df e h)];$(s b u e)
theorem SR.dP(S:SR K H0 ps Z σ H Hi)(h:H p=al):Hi p=al:=by
 cases e:Hi p with
 |none=>rfl
 |some o=>rw[S.sub _ _ e]at h;lk
theorem SR.bU(S:SR K H0 ps Z σ H Hi)(h:H p=al):H0.1 p=al/\¬fY ps p:=by
 let a:¬fY ps p:=λm=>S.eF p m h;$({?_,a});cases e:H0.1 p with
 |none=>rfl
 |some o=>rw[S.keep _ _ e a]at h;lk
def SR.laid(S:SR K H0 ps Z σ H Hi)(h:H p=al):SR K H0 ps Z σ (upd H p o) (upd Hi p o)/\af Hi (upd Hi p o):=by
 let sm:af Hi (upd Hi p o):=j6<|S.dP h;let ne:∀{q:cA}{c:Dat},cC K H Hi q c->q≠p:=λf=>df f.some.1.choose_spec h;$({{zJ S.sub,λb u e n=>?_,λq m=>?_,λi d e=>?_,λi c e=>?_,λi c e=>?_,S.ne,S.len,λq u e=>?_},sm})
 .rw[aA (df (S.keep b u e n) h)];$(S.keep b u e n)
 .ext(f:q=p);simp![bw];rw[aA f];$(S.eF q m)
 .let(v,a,b):=S.D i d e;$({v,a,Rep.mono sm b})
 .let(q,a,b,g,j):=S.O i c e;$({q,a,b.keeps (aA<|ne b) sm (by rw[aA (ne b)];$(b.some.2)),g,j})
 .let(q,a,b,g):=S.io i c e;$({q,a,b.keeps (aA<|ne b) sm (by rw[aA (ne b)];$(b.some.2)),g})
 ext(f:q=p)
 .$$f;$(τ<|ι (S.bU h).1)
 rw[aA f]at e;$(S.nw q u e)
def SR.made(S:SR K H0 ps Z σ H Hi)(h:H p=al):SR K H0 ps Z σ (upd H p o) Hi:=by
 let hi:=S.dP h;let ne:∀{q:cA}{c:Dat},cC K H Hi q c->q≠p:=λd=>df d.some.1.choose_spec h;$({tZ S.sub hi,λb u e n=>?_,λq m=>?_,S.D,λi c e=>?_,λi c e=>?_,S.ne,S.len,S.nw})
 .rw[aA (df (S.keep b u e n) h)];$(S.keep b u e n)
 .ext(d:q=p);simp![bw];rw[aA d];$(S.eF q m)
 .let(q,a,b,f,g):=S.O i c e;$({q,a,b.keeps (aA<|ne b) (af.refl _) b.some.2,f,g})
 let(q,a,b,f):=S.io i c e;$({q,a,b.keeps (aA<|ne b) (af.refl _) b.some.2,f})
theorem SR.eM(S:SR K H0 ps Z σ H Hi){p:cA}(h:H p=al):∀(i:Nat) (c:Dat),(Z[i]?=ac (.O c)\/Z[i]?=ac (.io c))->σ[i]?≠ac (ac<|.ref p):=by
 ext i c (e|e) z
 .let(q,a,b,_):=S.O i c e;rw[a]at z;$$$z;rw[b.some.1.choose_spec]at h;$$$h
 let(q,a,b,_):=S.io i c e;rw[a]at z;$$$z;rw[b.some.1.choose_spec]at h;$$$h
theorem SR.freeze(S:SR K H0 ps Z σ H Hi)(h:RR K H0 ps Z σ H Hi v r):∃f,SR K H0 ps Z σ H f/\af Hi f/\Rep K f r.val v:=by
 cases r with
 |D d=>$({Hi,S,af.refl _,h})
 |O c =>
  let(p,rfl,k,np,w,nd):=h;let go:∀o,H p=ac o->(∃f,f=upd Hi p o/\SR K H0 ps Z σ H f/\af Hi f):=λo e=>by
   let sm:af Hi (upd Hi p o):=j6 k.some.2;$({_,ρ,{Hr S.sub e,S.keep,S.eF,λi d g=>?_,λi l g=>?_,λi l g=>?_,S.ne,S.len,λq u g=>?_},sm})
   .let(v,a,b):=S.D i d g;$({v,a,Rep.mono sm b})
   .let(q,a,b,t,x):=S.O i l g;let j:q≠p:=λz=>nd i l (ι g) (by rw[a,z]);$({q,a,b.keeps ρ sm (by rw[aA j];$(b.some.2)),t,x})
   .let(q,a,b,t):=S.io i l g;let j:q≠p:=λz=>nd i l (τ g) (by rw[a,z]);$({q,a,b.keeps ρ sm (by rw[aA j];$(b.some.2)),t})
   ext(j:q=p)
   .$$j;$(τ<|ι w)
   rw[aA j]at g;$(S.nw q u g)
  cases c with
  |L ds=>let(vs,e,r,n):=k;let(f,rfl,m,sm):=go _ e;$({_,m,sm,p,vs,ρ,Rd.of bw,aw.mono sm r})
  |cg y=>let(vs,e,r,n):=k;let(f,rfl,m,sm):=go _ e;$({_,m,sm,p,vs,ρ,bw,bN.mono sm r})
  |bA fz y=>let(rfl,vs,e,r,n):=k;let(f,rfl,m,sm):=go _ e;$({_,m,sm,p,{cls:=.none,data:=.fields #[]},vs,ρ,bw,bW.mono sm r})
  |_=>$k.elim
end
abbrev EF:=DS->Option (Res×DS)
abbrev DF:=DS->Option (Dat×DS)
abbrev BF:=DS->Option (Bool×DS)
abbrev AF:=DS->Option (List Dat×DS)
def J0(K:e6)(c:Hp×Hp)(ps:Nat->Option cA)(d:St)(f:Hp)(Q:VK)(r:Res)(e:DS):Prop:=∀v b a,SR K c ps e d b a->af f a->RR K c ps e d b a v r->Q v b
def VS(K:e6)(c:Hp×Hp)(ps:Nat->Option cA)(e:St)(f:Hp)(Q:VK)(d:Dat)(g:DS):Prop:=∀v b a,SR K c ps g e b a->af f a->Rep K a d v->Q v b
def Ae(K:e6)(c:Hp×Hp)(ps:Nat->Option cA)(d:St)(e:Hp)(Q:Hp->Prop)(f:DS):Prop:=∀b a,SR K c ps f d b a->af e a->Q b
def QP(K:e6)(c:Hp×Hp)(ps:Nat->Option cA)(d:St)(e:Hp)(Q:List V->Hp->Prop)(ds:List Dat)(f:DS):Prop:=∀vs b a,SR K c ps f d b a->af e a->aw K a ds vs->Q vs b
def vO(X:Cx)(f:EF)(t:TE):Prop:=∀(b:Hp×Hp) (ps:Nat->Option cA) (Z:DS) (a:St) (H c:Hp) (r:Res) (d:DS) (Q:VK),f Z=ac (r,d)->SR X.K b ps Z a H c ->
 J0 X.K b ps a c Q r d->t a H Q
inductive DE (X:Cx) (e:fA) (f:EF):Prop
 |mk (t:TE) (p:PE X e t) (q:vO X f t)
def NL(X:Cx)(f:DF)(t:TE):Prop:=∀(b:Hp×Hp) (ps:Nat->Option cA) (Z:DS) (a:St) (H c:Hp) (d:Dat) (e:DS) (Q:VK),f Z=ac (d,e)->SR X.K b ps Z a H c ->
 VS X.K b ps a c Q d e->t a H Q
inductive DD (X:Cx) (e:fA) (f:DF):Prop
 |mk (t:TE) (p:PE X e t) (q:NL X f t)
def uQ(X:Cx)(f:BF)(t:TT):Prop:=∀(c:Hp×Hp) (ps:Nat->Option cA) (Z:DS) (a:St) (H d:Hp) (b:Bool) (e:DS) (Q:Bool->Hp->Prop),f Z=ac (b,e)->SR X.K c ps Z a H d ->
 Ae X.K c ps a d (Q b) e->t a H Q
inductive DT (X:Cx) (e:fA) (f:BF):Prop
 |mk (t:TT) (p:PT X e t) (q:uQ X f t)
def OE(X:Cx)(f:BF)(t:TT):Prop:=∀(c:Hp×Hp) (ps:Nat->Option cA) (Z:DS) (a:St) (H d:Hp) (b:Bool) (e:DS) (Q:Bool->Hp->Prop),f Z=ac (b,e)->SR X.K c ps Z a H d ->
 Ae X.K c ps a d (Q b) e->t a H Q
inductive DW (X:Cx) (e:fA) (f:BF):Prop
 |mk (t:TT) (p:PW X e t) (q:OE X f t)
def NR(X:Cx)(f:AF)(t:TA):Prop:=∀(b:Hp×Hp) (ps:Nat->Option cA) (Z:DS) (a:St) (H c:Hp) (ds:List Dat) (d:DS) (Q:List V->Hp->Prop),f Z=ac (ds,d)->SR X.K b ps Z a H c ->
 QP X.K b ps a c Q ds d->t a H Q
inductive DA (X:Cx) (es:List fA) (f:AF):Prop
 |mk (t:TA) (p:PA X es t) (q:NR X f t)
def gp(f:EF):DF:=λZ=>(f Z).map λp=>(p.1.val,p.2)
def nH(f:DF):EF:=λZ=>(f Z).map λp=>(.D p.1,p.2)
section
variable{X:Cx}{e a b c:fA}{pos:q7}{K:e6}{H0:Hp×Hp}{H Hi:Hp}{ps:Nat->Option cA}{Z Z':DS}{σ:St}{i:Nat}{r:Res}{v:V}
def DW.dt (h:DW X e f):DT X e f:=let⟨t,p,q⟩:=h;⟨t,p.pt,q⟩
def DE.dd (h:DE X e f):DD X e (gp f):=by let(t,p,q):=h;$({t,p,λH0 ps Z σ H Hi d Z' Q g S k=>?_});let(r,Z1,m,g):=oN g;let(rfl,rfl):=sP g;$(q H0 ps Z σ H Hi r Z1 Q m S λv n Hi' o s' s=>?_);let(j,u,w,l):=o.freeze s;$(k v n j u (s'.trans w) l)
def DD.de (h:DD X e f):DE X e (nH f):=by let(t,p,q):=h;$({t,p,λH0 ps Z σ H Hi r Z' Q g S k=>?_});let(d,Z1,m,g):=oN g;let(rfl,rfl):=sP g;$(q H0 ps Z σ H Hi d Z1 Q m S λv n j o s' l=>k v n j o s' l)
def fC(d:Dat):DF:=λZ=>ac (d,Z)
def qI (h:PE X e (tC v))(r:∀H,Rep X.K H d v):DD X e (fC d) :=
 {_,h,λH0 ps Z σ H Hi d' Z' Q f S k=>by let(rfl,rfl):=sP f;$(k v H Hi S (af.refl _)<|r _)}
def UZ{i j}:DD X (.Constant (.int i) j pos) (fC<|.int i):=qI (λ_ _ _ H _ I h=>wpAny_Constant_int {.int i,H,I.tok _,{_,ρ},h}) λ_=>rfl
def JI{i j}:DD X (.Constant (.bool i) j pos) (fC<|.bl i):=qI Kz λ_=>rfl
def Te{j}:DD X (.Constant .none j pos) (fC .aP):=qI (λ_ _ _ H _ I h=>Constant_none {.aP,H,I,ρ,h}) λ_=>rfl
def JJ{x j}:DD X (.Constant (.str x) j pos) (fC<|.str x):=qI EE λ_=>rfl
structure Glob (X:Cx) (x:ew) (d:Dat):Prop where
 gl:Gl X x
 is:∃v u,X.mg x=ac u/\RelV v u/\∀H,Rep X.K H d v
def LQ (h:Glob X x d)(hd:bM x:=by decide):DD X (.Name x pos) (fC d):=by let(v,u,f,g,j):=h.is;$(qI (C9 h.gl f g hd) j)
def cS(i:Nat):DF:=λZ=>match Z[i]? with
 |some (.D d)=>ac (d,Z)
 |some (.O c)=>ac (c,Z.set i<|.D c)
 |_=>al
def SR.yw{K:e6}{H0:Hp×Hp}{H Hi:Hp}{ps:Nat->Option cA}{Z:DS}{σ:St}{i:Nat}{c:Dat}(S:SR K H0 ps Z σ H Hi)(e:Z[i]?=ac (.O c)) :
  ∃l v,σ[i]?=ac (ac v)/\SR K H0 ps (Z.set i<|.D c) σ H l/\af Hi l/\Rep K l c v:=by
 let(p,u,B,C,D):=S.O i c e;let o:=(bg.1 e).1;let E:SR K H0 ps (Z.set i .no) σ H Hi:=by
  let get:∀{j:Nat}{s:Slot},(Z.set i .no)[j]?=ac s->s≠.no->j≠i/\Z[j]?=ac s:=λ{j s} h A=>by ext(g:j=i);simp!;rw[g0 (Ne.symm g)]at h;$(⟨g,h⟩)
  $({S.sub,S.keep,S.eF,λj d h=>S.D j d (get h ⋯).2,λj f h=>S.O j f (get h ⋯).2,λj f h=>S.io j f (get h ⋯).2,λj k f n q x y=>?_,by rw[kx];$S.len,S.nw});$(S.ne j k f n q (x.imp (λz=>(get z ⋯).2) λz=>(get z ⋯).2) (y.imp (λz=>(get z ⋯).2) λz=>(get z ⋯).2))
 let r:RR K H0 ps (Z.set i .no) σ H Hi (.ref p) (.O c):=by
  $({p,ρ,B,C,D,λj f h z=>?_});let g:j≠i:=λw=>by simp!
  rw[g0 (Ne.symm g)]at h;$(g<|S.ne j i f c p h (ι e) z u)
 let(l,m,F,t):=E.freeze r;$({l,.ref p,u,{m.sub,m.keep,m.eF,λj d h=>?_,λj f h=>?_,λj f h=>?_,λj k f n q x y G I=>?_,by rw[kx];$S.len,m.nw},F,t})
 .ext(g:j=i)
  .$$g;rw[hY o]at h;$$$h;$({_,u,t})
  rw[g0 (Ne.symm g)]at h;$(m.D j d (by rw[g0 (Ne.symm g)];$h))
 all_goals
  let back:∀{j:Nat}{s:Slot},(Z.set i<|.D c)[j]?=ac s->(∀d,s≠.D d)->(Z.set i .no)[j]?=ac s:=λ{j s} h A=>by
   ext(g:j=i)
   .$$g;rw[hY o]at h;$$$$$$h;$(absurd ρ<|A c)
   rw[g0 (Ne.symm g)]at h ⊢;$h
 .$(m.O j f<|back h (by ext d;simp))
 .$(m.io j f<|back h (by ext d;simp))
 $(m.ne j k f n q (x.imp (λz=>back z (by ext d;simp)) λz=>back z (by ext d;simp)) (y.imp (λz=>back z (by ext d;simp)) λz=>back z (by ext d;simp)) G I)
def LW (i:Nat)(m:X.N[i]?=ac x)(n:cw X.env.scope x)(hd:bM x:=by decide)(j:cT x:=by decide):DD X (.Name x pos) (cS i):=by
 $({_,eX m n hd j,λH0 ps Z σ H Hi d Z' Q f S k=>?_});unfold cS at f;$$$$$f
 .ext1 d0 g;$$$f;let(v,h,r):=S.D i d g;$({v,h,k v H Hi S (af.refl _) r})
 .ext1 c0 g;let(rfl,rfl):=sP f;let(l,v,h,o,s',r):=S.yw g;$({v,h,k v H l o s' r})
 $(nO f)
def yR(i:Nat):EF:=λZ=>match Z[i]? with
 |some (.D d)=>ac (.D d,Z)
 |some (.O c)=>ac (.O c,Z.set i .no)
 |_=>al
def TM (i:Nat)(u:X.N[i]?=ac x)(w:cw X.env.scope x)(hd:bM x:=by decide)(n:cT x:=by decide):DE X (.Name x pos) (yR i):=by
 $({_,eX u w hd n,λH0 ps Z σ H Hi r Z' Q g S k=>?_});unfold yR at g;$$$$$g
 .ext1 y l;let(rfl,rfl):=sP g;let(v,m,r):=S.D i y l;$({v,m,k v H Hi S (af.refl _) r})
 .ext1 c0 l;let(rfl,rfl):=sP g;let(p,m,A,B,C):=S.O i c0 l;let hlt:=(bg.1 l).1;let get:∀{j:Nat}{s:Slot},(Z.set i .no)[j]?=ac s->s≠.no->j≠i/\Z[j]?=ac s:=λ{j s} h hn=>by ext(o:j=i);simp!;rw[g0 (Ne.symm o)]at h;$(⟨o,h⟩)
  $({.ref p,m,k (.ref p) H Hi {S.sub,S.keep,S.eF,λj d h=>S.D j d (get h ⋯).2,λj f h=>S.O j f (get h ⋯).2,λj f h=>S.io j f (get h ⋯).2,λj k f t q D E=>?_,by rw[kx];$S.len,S.nw} (af.refl _) {p,ρ,A,B,C,λj f h z=>?_}})
  .$(S.ne j k f t q (D.imp (λz=>(get z ⋯).2) λz=>(get z ⋯).2) (E.imp (λz=>(get z ⋯).2) λz=>(get z ⋯).2))
  let h':j≠i/\(Z[j]?=ac (.O f)\/Z[j]?=ac (.io f)):=by
   let h||h:=h
   .$({(get h ⋯).1,ι (get h ⋯).2})
   $({(get h ⋯).1,τ (get h ⋯).2})
  $(h'.1<|S.ne j i f c0 p h'.2 (ι l) z m)
 $(nO g)
def cK(op:Dat->Dat->Option Res)(f g:DF):EF:=λZ=>(f Z).bind λp=>(g p.2).bind λq=>(op p.1 q.1).map λr=>(r,q.2)
def ff(X:Cx)(r:R2)(op:Dat->Dat->Option Res):Prop:=∀(H0:Hp×Hp) (ps:Nat->Option cA) (Z:DS) (σ:St) (H Hi:Hp) (x y:V) (d d':Dat) (o:Res) (Q:VK),op d d'=ac o->SR X.K H0 ps Z σ H Hi->Rep X.K Hi d x->Rep X.K Hi d' y ->
 (∀v g f,SR X.K H0 ps Z σ g f->af Hi f->RR X.K H0 ps Z σ g f v o->Q v g)->r x y H Q
def xM{r:R2}{op:Dat->Dat->Option Res}{f g:DF}{m tb:TE}(t:ff X r op)
 (u:∀(H0:Hp×Hp) (ps:Nat->Option cA) (Z:DS) (σ:St) (H Hi:Hp) (d:Dat) (Z':DS) (Q:VK),f Z=ac (d,Z')->SR X.K H0 ps Z σ H Hi->(∀v j h,SR X.K H0 ps Z' σ j h->af Hi h->Rep X.K h d v->Q v j)->m σ H Q)
 (w:∀(H0:Hp×Hp) (ps:Nat->Option cA) (Z:DS) (σ:St) (H Hi:Hp) (d:Dat) (Z':DS) (Q:VK),g Z=ac (d,Z')->SR X.K H0 ps Z σ H Hi->(∀v j h,SR X.K H0 ps Z' σ j h->af Hi h->Rep X.K h d v->Q v j)->tb σ H Q)
 (H0:Hp×Hp)(ps:Nat->Option cA)(Z:DS)(σ:St)(H Hi:Hp)(o:Res)(Z':DS)(Q:VK)(l:cK op f g Z=ac (o,Z'))(S:SR X.K H0 ps Z σ H Hi)
 (k:∀v j h,SR X.K H0 ps Z' σ j h->af Hi h->RR X.K H0 ps Z' σ j h v o->Q v j):nY r m tb σ H Q:=by
 let(d,Z1,z,l):=oB l;let(d',Z2,A,l):=oB l;let(o',B,l):=oM l;let(rfl,rfl):=sP l;$(u H0 ps Z σ H Hi d Z1 _ z S λx C n D E F=>?_);$(w H0 ps Z1 σ C n d' _ _ A D λy G p I q J=>?_);$(t H0 ps _ σ G p x y d d' _ Q B I (Rep.mono q F) J λv L s M N O=>k v L s M ((E.trans q).trans N) O)
def mE{op:Operator}{r:R2}{d:Dat->Dat->Option Res}{f g:DF}(h:aV X (Q2 op) r)(j:ff X r d)(k:DD X a f)(l:DD X b g):DE X (.BinOp a op b pos) (cK d f g):=by let(ta,m,n):=k;let(tb,o,p):=l;$({_,(λe f g=>by$(λd s i H Q I h=>wpAny_BinOp (yQ f g I h λv u j x y k l rx m q=>e d j i k x y v u Q l rx m q))) h m o,xM j n p})
def sZ{op:adH}{r:R2}{d:Dat->Dat->Option Res}{f g:DF}(h:aV X (j' op) r)(j:ff X r d)(k:DD X a f)(l:DD X b g)(m:tm op b=bi):DE X (.Compare a [op] [b] pos) (cK d f g):=by let(ta,n,o):=k;let(tb,p,q):=l;$({_,Fq h n p m,xM j o q})
def Ck:R2:=λx y H Q=>∃l b xs d,x=.ref l/\y=.ref b/\Rd H l (.L xs)/\Rd H b (.L d)/\xs.length+d.length<=a9/\∀p,H p=al->Q (.ref p) (upd H p<|.L<|xs++d)
def EU(K:e6):R2:=λx y H Q=>∃l b xs d,x=.ref l/\y=.ref b/\bV K H l xs/\Rd H b (.L d)/\xs.length+d.length<=a9/\∀p,H p=al->Q (.ref p) (upd H p<|.L<|xs++d)
def MH(i j:Int):Prop:=0<j/\j.natAbs.log2<9000
def Ld:aV X (Q2 .FloorDiv) (rI MH λi j=>.int<|i/j):=uI λi j _ _ _ _ _ d q=>by let h1:=d.1;$(floordiv_int (by lia) (by rw[Int.fdiv_eq_ediv_of_nonneg i (by lia)];$q)<|ι<|PyProof.noPylong_of_log2 d.2)
theorem aw.ints:∀(ns:List Int),aw K H (ns.map Dat.int) (ns.map V.int)
 |[]=>rfl
 |n::ns=>{_,_,ρ,ρ,aw.ints ns}
def mJ:Dat->Dat->Option Res
 |.int i,.int j=>ac (.D<|.int<|i+j)
 |.str x,.str y=>if x.length+y.length<=a9 then ac (.D<|.str<|x++y)else al
 |.L xs,.L ys=>if xs.length+ys.length<=a9 then ac (.O<|.L<|xs++ys)else al
 |.cM xs,.L ys=>if xs.length+ys.length<=a9 then ac (.O<|.L<|xs.map Dat.int++ys)else al
 |.U (x::xs),.U (y::ys)=>if(x::xs).length+(y::ys).length<=a9 then ac (.D<|.U<|(x::xs)++(y::ys))else al
 |_,_=>al
def Cp(K:e6):R2:=λx y H Q=>hZ (λi j=>.int<|i+j) x y H Q\/(λx y H Q=>(λx y H Q=>∃i j,x=.str i/\y=.str j/\i.length+j.length<=a9/\Q (.str<|i++j) H) x y H Q\/(λx y H Q=>Ck x y H Q\/(λx y H Q=>EU K x y H Q\/BK K x y H Q) x y H Q) x y H Q) x y H Q
def Vs:aV X (Q2 .Add) (Cp X.K):=aV.or (E5 λ_ _ _ _ _ _ _ q=>add_int q) (aV.or UM (aV.or (by
  ext pins s σ H x y v u Q I rx g h;let(l,b,xs,zs,rfl,rfl,j,k,hz,q):=h;$$rx;$$g;let(z,its,n,r,e):=j.ok I.aj;let(z2,d,n2,f,m):=k.ok I.aj;let hl:=r.length;let hl2:=f.length;$(PySem.P.add_list e m ?_ (by rw[fv,fv];lia));let o:its.toArray++d.toArray=(its++d).toArray:=⋯
  rw[o];$({.ref _,_,I.sx (r.append f) (by rw[fk];$_),ρ,q _ I.fresh})) (aV.or (by
    ext pins s σ H x y v u Q I rx o h;let(l,b,xs,zs,rfl,rfl,p,t,hz,q):=h;$$rx;$$o;let(its,r,((cls,dd,data,w),n,f,g,hd,j),z):=I.list p;subst g hd j;let(z2,d,n2,k,m):=t.ok I.aj;let hl:=r.length;let hl2:=k.length;$(aek {_,f,ρ} {_,m,ρ} noFill_list_add seq_list_add PySem.F.slot_list_add PySem.F.entry_list_add (PySem.F.args_list_add_2 _ _) (list_addW l b its.toArray d.toArray n n2 al al w #[] (by rw[fv,fv];lia)) {f,m,?_});let A:its.toArray++d.toArray=(its++d).toArray:=⋯
    rw[A];$({.ref _,_,I.sx (r.append k) (by rw[fk];$_),ρ,q _ I.fresh})) SY)))
def Ji:ff X (Cp X.K) mJ:=by
 ext H0 ps Z σ H Hi x y d d' o Q e S rx l k;delta mJ at e;$$$$$e
 .$$$$$$e;$$rx;$$l;$(ι {_,_,ρ,ρ,k _ H Hi S (af.refl _) ρ})
 .$$$$$e
  .ext1 h;$$$$$$e;$$rx;$$l;$(τ<|ι ⟨_,_,ρ,ρ,h,k _ H Hi S (af.refl _) ρ⟩)
  $(nO e)
 .$$$$$e
  .ext1 h;$$$$$$e;let(p,vs,rfl,m,n):=rx;let(s,j,rfl,t,g):=l;$(τ (τ<|ι ⟨p,s,vs,j,ρ,ρ,Rd.mono S.sub m,Rd.mono S.sub t,by rw[n.length,g.length];$h,λq f=>?_⟩));$(k (.ref q) _ Hi (S.made f) (af.refl _) {q,ρ,{_,bw,aw.append n g,S.dP f},(S.bU f).2,(S.bU f).1,S.eM f})
  $(nO e)
 .$$$$$e
  .ext1 h;$$$$$$e;let(p,rfl,m):=rx;let(s,j,rfl,t,g):=l;$(τ (τ<|τ<|ι ⟨p,s,_,j,ρ,ρ,bV.mono S.sub m,Rd.mono S.sub t,by rw[a8,g.length];$h,λq f=>?_⟩));$(k (.ref q) _ Hi (S.made f) (af.refl _) {q,ρ,{_,bw,aw.append (aw.ints _) g,S.dP f},(S.bU f).2,(S.bU f).1,S.eM f})
  $(nO e)
 .$$$$$e
  .ext1 h;$$$$$$e;let(p,vs,rfl,m,n):=rx;let(s,j,rfl,t,g):=l;let u:=n.length;let w:=g.length;$(τ<|τ<|τ<|τ ⟨p,s,vs,j,ρ,ρ,bj.mono S.sub m,bj.mono S.sub t,λz=>?_,by rw[u,w];$h,λz=>?_,λ_ q f=>?_⟩)
   .rw[z]at u;lk
   .rw[z]at w;lk
   let(A,s'):=S.laid f;$(k (.ref q) _ _ A s' {q,_,ρ,bj.of bw,aw.mono s'<|aw.append n g})
  $(nO e)
 $(nO e)
def eI(C:Int->Int->Bool)(g:Int->Int->Dat):Dat->Dat->Option Res
 |.int i,.int j=>if C i j=bd then ac (.D<|g i j)else al
 |_,_=>al
def vn (h:∀i j,C i j=bd->f i j)(l:∀i j K H,Rep K H (g i j)<|g' i j):ff X (rI f g') (eI C g):=by
 ext H0 ps Z σ H Hi x y d d' o Q e S rx m k;delta eI at e;$$$$$e
 .$$$$$e
  .ext1 n;$$$$$$e;$$rx;$$m;$({_,_,ρ,ρ,h _ _ n,k _ H Hi S (af.refl _)<|l _ _ _ _})
  $(nO e)
 $(nO e)
def nz (f:∀i j K H,Rep K H (g i j)<|g' i j):ff X (hZ g') (eI (λ_ _=>true) g):=by
 ext H0 ps Z σ H Hi x y d d' o Q e S rx h k;delta eI at e;$$$$$e
 .$$$$$e
  .$$$$$$e;$$rx;$$h;$({_,_,ρ,ρ,k _ H Hi S (af.refl _)<|f _ _ _ _})
  lk
 $(nO e)
def j9:Res->Slot
 |.D d=>.D d
 |.O c=>.O c
def kz(i:Nat)(r:Res)(Z:DS):Option DS:=match Z[i]? with
 |none=>al
 |some (.io _)=>al
 |some _=>ac<|Z.set i<|j9 r
theorem SR.put(S:SR K H0 ps Z σ H Hi)(u:RR K H0 ps Z σ H Hi v r)(e:kz i r Z=ac Z'):SR K H0 ps Z' (σ.set i<|ac v) H Hi:=by
 delta kz at e;cases w:Z[i]? with
 |none=>rw[w]at e;$(nO e)
 |some s =>
  let t:=(bg.1 w).1;let B:i<σ.length:=by rw[<-S.len];$t
  let F:Z'=Z.set i (j9 r)/\∀c,s≠.io c:=by rw[w]at e;$$$s<;>first|($(nO e);done)|($(⟨(Option.some.inj e).symm,by ext c;simp⟩))
  let(rfl,_):=F;let other:∀{j:Nat}{s':Slot},j≠i->(Z.set i<|j9 r)[j]?=ac s'->Z[j]?=ac s':=λ{j s'} f h=>by rwa[g0 (Ne.symm f)]at h
  let adA:∀{s':Slot},(Z.set i<|j9 r)[i]?=ac s'->s'=j9 r:=λ{s'} h=>by rw[hY t]at h;$((Option.some.inj h).symm)
  let g:∀{j:Nat},j≠i->(σ.set i<|ac v)[j]?=σ[j]?:=λ{j} f=>g0<|Ne.symm f;let x:(σ.set i<|ac v)[i]?=ac (ac v):=hY B;$({S.sub,S.keep,S.eF,λj d h=>?_,λj c h=>?_,λj c h=>?_,λj k c m p y A n o=>?_,by simp?[kx,kx];$S.len,S.nw})
  .ext(f:j=i)
   .subst f;let q:=adA h;cases r with
    |D d'=>$$$q;$(⟨v,x,u⟩)
    |O c=>lk
   rw[g f];$(S.D j d<|other f h)
  .ext(f:j=i)
   .subst f;let q:=adA h;cases r with
    |D d'=>$$$q
    |O c =>
     cases q;let(p,rfl,C,D,E,_):=u;$(⟨p,x,C,D,E⟩)
   rw[g f];$(S.O j c<|other f h)
  .ext(f:j=i)
   .subst f;let q:=adA h;$$$r<;>lk
   rw[g f];$(S.io j c<|other f h)
  let back:∀{j:Nat}{c:Dat},((Z.set i<|j9 r)[j]?=ac (.O c)\/(Z.set i<|j9 r)[j]?=ac (.io c))->j≠i->(Z[j]?=ac (.O c)\/Z[j]?=ac (.io c)):=λh f=>h.imp (other f) (other f);let new:∀{c:Dat}{p:cA},((Z.set i<|j9 r)[i]?=ac (.O c)\/(Z.set i<|j9 r)[i]?=ac (.io c))->(σ.set i<|ac v)[i]?=ac (ac<|.ref p)->∀(k:Nat) (m:Dat),(Z[k]?=ac (.O m)\/Z[k]?=ac (.io m))->σ[k]?≠ac (ac<|.ref p):=λ{c p} h z=>by
   rw[x]at z;cases r with
   |D d'=>let h||h:=h<;>cases adA h
   |O c0=>let(p',G,C,D,E,nd):=u;$$G;$$$z;$nd
  ext(f:j=i)
  .ext(l:k=i)
   .simp?[f,l]
   subst f;rw[g l]at o;$(absurd o<|new y n k m<|back A l)
  ext(l:k=i)
  .subst l;rw[g f]at n;$(absurd n<|new A o j c<|back y f)
  rw[g f]at n;rw[g l]at o;$(S.ne j k c m p (back y f) (back A l) n o)
abbrev GF:=Dat->DS->Option DS
def Ru(X:Cx)(g:GF)(t:TG):Prop:=∀(H0:Hp×Hp) (ps:Nat->Option cA) (Z:DS) (σ:St) (H Hi:Hp) (d:Dat) (Z':DS) (v:V) (Q:St->Hp->Prop),g d Z=ac Z'->SR X.K H0 ps Z σ H Hi->Rep X.K Hi d v ->
 (∀f,SR X.K H0 ps Z' f H Hi->Q f H)->t v σ H Q
inductive DG (X:Cx) (tg:fA) (g:GF):Prop
 |mk (t:TG) (p:PG X tg t) (q:Ru X g t)
def QM(X:Cx)(g:List Dat->DS->Option DS)(t:jc):Prop:=∀(H0:Hp×Hp) (ps:Nat->Option cA) (Z:DS) (σ:St) (H Hi:Hp) (ds:List Dat) (Z':DS) (vs:List V) (Q:St->Hp->Prop),g ds Z=ac Z'->SR X.K H0 ps Z σ H Hi->aw X.K Hi ds vs ->
 (∀d,SR X.K H0 ps Z' d H Hi->Q d H)->t vs σ H Q
inductive mx (X:Cx) (tgs:List fA) (g:List Dat->DS->Option DS):Prop
 |mk (t:jc) (p:pT X tgs t) (q:QM X g t)
def BI(i:Nat):GF:=λd Z=>kz i (.D d) Z
def JP:List Dat->DS->Option DS
 |[],Z=>ac Z
 |_,_=>al
def Cd(g:GF)(f:List Dat->DS->Option DS):List Dat->DS->Option DS
 |d::ds,Z=>(g d Z).bind (f ds)
 |[],_=>al
theorem Rm:mx X [] JP:=by
 $({_,By,λH0 ps Z σ H Hi ds Z' vs Q e S r k=>?_});cases ds with
 |nil=>$$$$$$e;$({r,k σ S})
 |cons _ _=>$(nO e)
theorem PY (m:DG X e g)(n:mx X f h)(o:(pl (e::f) X.env).map (·.2)=aay e X.env::(pl f X.env).map (·.2):=by rfl):mx X (e::f) (Cd g h):=by
 let(t1,p,q):=m;let(t2,s,t):=n;$({_,xK p s o,λH0 ps Z σ H Hi ds Z' vs Q e S r k=>?_});cases ds with
 |nil=>$(nO e)
 |cons d ds=>let(v,j,rfl,u,w):=r;let(Z1,x,e):=oA e;$({v,j,ρ,q H0 ps Z σ H Hi d Z1 v _ x S u λl y=>t H0 ps Z1 l H Hi ds Z' j Q e y w k})
inductive Out where
 |next (Z:DS)|ret (r:Res) (Z:DS)|brk (Z:DS)|cont (Z:DS)|exc (C:cA) (Z:DS)
def XE(X:Cx)(C:cA)(σ:St)(H:Hp):Prop:=O7 X σ C H/\∀a,LN X σ (.ref C) a H
abbrev SF:=DS->Option Out
def mK(X:Cx)(H0:Hp×Hp)(ps:Nat->Option cA)(Hi:Hp)(D:Ends):Out->Prop
 |.next Z=>∀f g d,SR X.K H0 ps Z f g d->af Hi d->D.nx f g
 |.ret r Z=>∀v f g d,SR X.K H0 ps Z f g d->af Hi d->RR X.K H0 ps Z f g d v r->D.rt v g
 |.brk Z=>∀f g d,SR X.K H0 ps Z f g d->af Hi d->D.bk f g
 |.cont Z=>∀f g d,SR X.K H0 ps Z f g d->af Hi d->D.ct f g
 |.exc C Z=>∀f g d,SR X.K H0 ps Z f g d->af Hi d->XE X C f g
theorem mK.mono (s:af Hi k)(h:mK X H0 ps Hi D o):mK X H0 ps k D o:=by
 cases o with
 |next Z=>$(λd g f S j=>h d g f S (s.trans j))
 |ret r Z=>$(λv d g f S j=>h v d g f S (s.trans j))
 |brk Z=>$(λd g f S j=>h d g f S (s.trans j))
 |cont Z=>$(λd g f S j=>h d g f S (s.trans j))
 |exc C Z=>$(λd g f S j=>h d g f S<|s.trans j)
def NG(X:Cx)(f:SF)(t:TS):Prop:=∀(H0:Hp×Hp) (ps:Nat->Option cA) (Z:DS) (σ:St) (H Hi:Hp) (o:Out) (D:Ends),f Z=ac o->SR X.K H0 ps Z σ H Hi->mK X H0 ps Hi D o->t D σ H
inductive cH (X:Cx) (st:zR) (f:SF):Prop
 |mk (t:TS) (p:PS X st t) (q:NG X f t)
def Eu(X:Cx)(f:SF)(t:TS):Prop:=∀(H0:Hp×Hp) (ps:Nat->Option cA) (Z:DS) (σ:St) (H Hi:Hp) (o:Out) (D:Ends),f Z=ac o->SR X.K H0 ps Z σ H Hi->mK X H0 ps Hi D o->t D σ H
inductive cY (X:Cx) (st:List zR) (f:SF):Prop
 |mk (t:TS) (p:da X st t) (q:Eu X f t)
def wB:SF:=λZ=>ac<|.next Z
def iQ(f g:SF):SF:=λZ=>(f Z).bind λo=>match o with
 |.next Z1=>g Z1
 |o=>ac o
def mw(f:DF):SF:=λZ=>(f Z).map λp=>.next p.2
def mh(f:EF):SF:=λZ=>(f Z).map λp=>.ret p.1 p.2
def kR(c:BF)(f g:SF):SF:=λZ=>(c Z).bind λp=>if p.1=bd then f p.2 else g p.2
def gK(i:Nat)(f:EF):SF:=λZ=>(f Z).bind λp=>(kz i p.1 p.2).map .next
def qf(g:GF)(f:DF):SF:=λZ=>(f Z).bind λp=>(g p.1 p.2).map .next
def Cb:cY X [] wB:={_,Al,λH0 ps Z σ H Hi o D e S k=>by$$$$$$e;$(k σ H Hi S<|af.refl _)}
theorem DR{st:zR}{d:List zR}{f g:SF}(l:cH X st f)(m:cY X d g):cY X (st::d) (iQ f g):=by
 let(t1,n,p):=l;let(t2,q,s):=m;$({_,kr n q,λH0 ps Z σ H Hi o D e S k=>?_});let(o1,t,e):=oA e;apply p H0 ps Z σ H Hi o1 _ t S;cases o1 with
 |next Z1=>$(λh u j w s'=>s H0 ps Z1 h u j o D e w (k.mono s'))
 |ret r Z1=>$$$$$$e;$k
 |brk Z1=>$$$$$$e;$k
 |cont Z1=>$$$$$$e;$k
 |exc C Z1=>$$$$$$e;$k
def Bb (h:DD X e f)(j:um e al pos.line X.env=pure false:=by rfl):cH X (.Expr e pos) (mw f):=by let(t,p,q):=h;$({_,vA p j,λH0 ps Z σ H Hi o D e S k=>?_});let(d,Z1,l,e):=oN e;$$$$$$e;$(q H0 ps Z σ H Hi d Z1 _ l S λv m g n s' _=>k σ m g n s')
def VY (h:DE X e f):cH X (.Return (ac e) pos) (mh f):=by let(t,p,q):=h;$({_,LR p,λH0 ps Z σ H Hi o D e S k=>?_});let(r,Z1,g,e):=oN e;$$$$$$e;$(q H0 ps Z σ H Hi r Z1 _ g S λv j d l s' m=>k v σ j d l s' m)
theorem CM{c:fA}{a b:List zR}{fc:BF}{fa fb:SF}(h:DT X c fc)(j:cY X a fa)(l:cY X b fb):cH X (.If c a b pos) (kR fc fa fb):=by
 let(tc,m,n):=h;let(ta,p,q):=j;let(tb,s,t):=l;$({_,zx m p s,λH0 ps Z σ H Hi o D e S k=>?_});let(b,Z1,u,e):=oB e;$(n H0 ps Z σ H Hi b Z1 _ u S λf d g s'=>?_);cases b with
 |true=>$(q H0 ps Z1 σ f d o D e g (k.mono s'))
 |false=>$(t H0 ps Z1 σ f d o D e g<|k.mono s')
def KC (h:DD X e f)(u:DG X j g)(w:abu [j] e pos.line X.env=pure false:=by rfl)(hw:abv [j] e X.env=pure al:=by rfl)(x:(pl [j] X.env).map (·.2)=[aay j X.env]:=by rfl):cH X (.Assign [j] e pos) (qf g f):=by let(t,p,q):=h;let(tg',m,y):=u;$({_,D3 p m w hw x,λH0 ps Z σ H Hi o D e S k=>?_});let(d,Z1,z,e):=oB e;let(Z2,A,e):=oM e;$$$$$$e;$(q H0 ps Z σ H Hi d Z1 _ z S λv n l B s' C=>y H0 ps Z1 σ n l d _ v _ A B C λs E=>k s n l E s')
end
def JW(K:e6)(J:It)(items:List Dat)(e:Hp):Prop:=∀(i:Nat) (a:Hp),af e a ->
 (∀d,items[i]?=ac d->J.go i a/\∀x b,J.lJ i a x b->(b=a/\Rep K e d x)\/∃p o,a p=al/\b=upd a p o/\∀c,af e c->c p=al->Rep K (upd c p o) d x) /\
 (items.length<=i->J.stop i a)
def JW.mono{K:e6}{J:It}{items:List Dat}{g f:Hp}(h:JW K J items g)(s:af g f):JW K J items f:=λi m s'=>by
 let(j,q):=h i m<|s.trans s';$({λd e=>{(j d e).1,λx k y=>?_},q});let(a,b)||(p,o,a,b,c):=(j d e).2 x k y
 .$(ι {a,Rep.mono s b})
 $(τ {p,o,a,b,λl r n=>c l (s.trans r) n})
abbrev IF:=DS->Option (List Dat×DS)
def Ma(X:Cx)(f:IF)(h:TI):Prop:=∀(c:Hp×Hp) (ps:Nat->Option cA) (Z:DS) (b:St) (H d:Hp) (items:List Dat) (e:DS) (R:It->Hp->Prop),f Z=ac (items,e)->SR X.K c ps Z b H d ->
 (∀J g a,SR X.K c ps e b g a->af d a->JW X.K J items a->R J g)->h b H R
inductive dv (X:Cx) (tg iter:fA) (f:IF):Prop
 |mk (wi:TI) (p:PI X tg iter wi) (q:Ma X f wi)
def QL:Dat->Option (List Dat)
 |.L ds=>ac ds
 |.U ds=>ac ds
 |_=>al
def ly(f:DF):IF:=λZ=>(f Z).bind λp=>(QL p.1).map λds=>(ds,p.2)
def dY(lo n:Int):List Dat:=(lb (n-lo).toNat).map λk:Nat=>.int<|lo+(k:Int)
def qV(f:AF):IF:=λZ=>(f Z).bind λp=>match p.1 with
 |[.int n]=>if -(2 ^ 62)<=n/\n<2 ^ 62 then ac (dY 0 n,p.2)else al
 |_=>al
section
variable{X:Cx}{tg:fA}
def PI.or (e:PI X tg iter c)(f:PI X tg iter d):PI X tg iter (λa H R=>c a H R\/d a H R):=λb s a H R I h=>h.elim (e b s a H R I)<|f b s a H R I
theorem Qi (h:DD X e f):dv X tg e (ly f):=by
 let(t,p,q):=h;$({_,PI.or (Gw p)<|Vu p,λs ps Z u H w items Z' R b S k=>?_});let(d,Z1,z,b):=oB b;dsimp at b;cases d with
 |L ds =>
  $$$b;$(ι (q s ps Z u H w _ _ _ z S λv l g j s' r=>?_));let(a,vs,rfl,rd,rs):=r;$({a,ρ,{vs,ι<|Rd.mono j.sub rd},k _ l g j s' λi A c=>{λd e=>?_,λm=>{vs,ι<|Rd.mono c rd,by rw[rs.length];$m}}});let(x,ex,rx):=rs.get e;$({{vs,x,ι<|Rd.mono c rd,ex},λy B n=>ι ?_});let(rfl,o):=n;let:=o vs<|ι<|Rd.mono c rd;simp!
 |U ds =>
  $$$b;$(τ (q s ps Z u H w _ _ _ z S λv l g j s' r=>?_));let(a,vs,rfl,rd,rs):=r;$({a,ρ,{vs,bj.mono j.sub rd},k _ l g j s' λi A c=>{λd e=>?_,λm=>{vs,bj.mono c rd,by rw[rs.length];$m}}});let(x,ex,rx):=rs.get e;$({{vs,x,bj.mono c rd,ex},λy B n=>ι ?_});let(rfl,o):=n;let:=o vs<|bj.mono c rd;simp!
 |_=>$(nO b)
theorem NQ{K:e6}{lo n:Int}{c:Hp}:JW K (su lo (n-lo).toNat) (dY lo n) c:=λi H' _=>by
 $({λd e=>?_,λb=>?_})
 .unfold dY at e;rw[ee]at e;let a:i<(n-lo).toNat:=by
   cases q:(lb (n-lo).toNat)[i]? with
   |none=>rw[q]at e;$(nO e)
   |some j=>$$$$((bg.1 q).1)
  rw[abX a]at e;$$$$$$e;$({a,λx H'' y=>ι ⟨y.1,y.2⟩})
 unfold dY at b;rw[a8,aab]at b;$b
def OU (e:Gl X "range")(g:X.mg "range"=al)(h:DA X [a] f)(i:ma [a] X.env=[(false,eval a X.env)]:=by rfl):dv X tg (.Call (.Name "range" p) [a] [] pos) (qV f):=by
 let(t,j,q):=h;$({_,UI e g j i,λl ps Z m H o items Z' R b S k=>?_});let(ds,Z1,s,b):=oB b;dsimp at b;$(q l ps Z m H o ds Z1 _ s S λvs u c w s' r=>?_);$$$$$b
 .$$$$$b
  .ext1 n d;let(rfl,rfl):=sP b;let(v,r1,rfl,x,y):=r;$$x;$$y;$({n,ρ,d.1,d.2,?_});let:=k (su 0 (n-0).toNat) u c w s' NQ;rwa[abD]at this
  $(nO b)
 $(nO b)
end
def forLoop(g:GF)(fb:SF):List Dat->SF
 |[],Z=>ac (.next Z)
 | x::xs,Z=>(g x Z).bind λZ1=>(fb Z1).bind λo=>match o with
  |.next Z2=>forLoop g fb xs Z2
  |.cont Z2=>forLoop g fb xs Z2
  |.brk Z2=>ac (.next Z2)
  |.ret r Z2=>ac (.ret r Z2)
  |.exc _ _=>al
def pJ(fi:IF)(g:GF)(fb:SF):SF:=λZ=>(fi Z).bind λp=>forLoop g fb p.1 p.2
section
variable{X:Cx}{pos:q7}{P:hE}{w:iR}{K:e6}{mg:ew->Option bt}{base:k7}{H0:Hp×Hp}{ps:Nat->Option cA}{σ:St}{psB:Nat->Option cA}{a b:fA}{ta tb:TE}{rest:List fA}{pins:List (cA×ua)}{H Hi:Hp}{s:dq}{Z:DS}{i:Nat}{io:Bool}{c c':Dat}{p:cA}{apos:q7}
theorem Tz (hp:acf (hJ X.prog X.w) X.A X.env X.xe)(hc:X.calm=bd)(hi:dv X R iter fi)(hg:DG X R g)(hb:cY X body fb)(hs:∀x,pw iter X.env x=pure x:=by ext _;rfl):cH X (.For R iter body [] pos) (pJ fi g fb):=by
 let(wi,pi,qi):=hi;let(tg',pg,qg):=hg;let(tb,pb,qb):=hb;$({_,ET hp hc pi pg pb hs,λH0 ps Z σ H Hi o D e S k=>?_});let(items,Z1,e1,e):=oB e;$(qi H0 ps Z σ H Hi items Z1 _ e1 S λJ H1 B S1 T jw=>?_)
 refine⟨λi m q Q=>m=items.length-i/\i<=items.length/\∃I h,SR X.K H0 ps I q Q h/\af B h/\forLoop g fb (items.drop i) I=ac o,
  {items.length,⋯,rp _,Z1,B,S1,af.refl _,by$$$$e},?_⟩
 ext i m q Q ⟨rfl,hi,I,h,L,s',f⟩;let M:=jw i Q<|s'.trans L.sub;ext(N:i<items.length)
 .let U:=b8 N;rw[ac9 N]at f;let(Z2,e2,f):=oA f;let(V,e3,f):=oA f;$(τ ⟨(M.1 _ U).1,λE W=>∃j F,SR X.K H0 ps j E W F/\af B F/\forLoop g fb (items.drop<|i+1) j=ac o,λE W ⟨j,F,S3,s3,f3⟩=>{items.length-(i+1),⋯,ρ,N,j,F,S3,s3,f3},λx G y=>?_⟩);obtain⟨d,Y,be,rx⟩:∃d,SR X.K H0 ps I q G d/\af h d/\Rep X.K d items[i] x:=by
   let(rfl,r)||(p,ob,n,rfl,r):=(M.1 _ U).2 x G y
   .exact{h,L,af.refl _,Rep.mono s' r}
   let(a,b):=L.laid n;$({_,a,b,r h s'<|L.dP n})
  refine qg H0 ps I q G d _ Z2 x _ e2 Y rx λE S2=>?_;apply qb H0 ps Z2 E G d V _ e3 S2;let sm:=s'.trans be;cases V with
  |next j=>$(λt O l u z=>{j,l,u,sm.trans z,f})
  |cont j=>$(λt O l u z=>{j,l,u,sm.trans z,f})
  |brk j=>$$$$$$f;$(λt O l u z=>k t O l u ((T.trans sm).trans z))
  |ret r j=>$$$$$$f;$(λv t O l u z rr=>k v t O l u ((T.trans sm).trans z) rr)
  |exc C j=>$(nO f)
 let ei:i=items.length:=by lia
 subst ei;rw[aeG]at f;$$$$$$f;$(ι {M.2<|eS _,k q Q h L<|T.trans s'})
def gX(c:BF)(fb:SF):Nat->SF
 |0,_=>al
 | n+1,Z=>(c Z).bind λp=>if p.1=bd then(fb p.2).bind (λo=>match o with
   |.next Z2=>gX c fb n Z2
   |.cont Z2=>gX c fb n Z2
   |.brk Z2=>ac (.next Z2)
   |.ret r Z2=>ac (.ret r Z2)
   |.exc _ _=>al)else ac (.next p.2)
theorem Jm{c:fA}{body:List zR}{fc:BF}{fb:SF}(n:Nat)(M:acf (hJ X.prog X.w) X.A X.env X.xe)(N:DT X c fc)(O:cY X body fb):cH X (.While c body [] pos) (gX fc fb n):=by
 let(tc,Q,R):=N;let(tb,T,U):=O;$({_,RG M Q T,λH0 ps Z σ H Hi o D e S k=>?_});$(⟨λm h E=>∃z t,SR X.K H0 ps z h E t/\af Hi t/\gX fc fb m z=ac o,{n,Z,Hi,S,af.refl _,e},?_⟩);ext m h E ⟨z,t,V,s',d⟩;cases m with
 |zero=>$(nO d)
 |succ m =>
  let(b,Z1,W,d):=oB d;$(R H0 ps z h E t b Z1 _ W V λF x G I=>?_);cases b with
  |false=>$$$$$$d;$(k h F x G (s'.trans I))
  |true =>
   let d:((fb Z1).bind λo=>match o with
    |.next Z2=>gX fc fb m Z2
    |.cont Z2=>gX fc fb m Z2
    |.brk Z2=>ac (.next Z2)
    |.ret r Z2=>ac (.ret r Z2)
    |.exc _ _=>al)=ac o:=d
   $(⟨λB J=>∃f u,SR X.K H0 ps f B J u/\af Hi u/\gX fc fb m f=ac o,λB J ⟨f,u,Y,s3,f3⟩=>{m,abk _,f,u,Y,s3,f3},?_⟩);let(L,e3,d):=oA d;apply U H0 ps Z1 h F x L _ e3 G;let sm:=s'.trans I;cases L with
   |next f=>$(λj y g l q=>{f,g,l,sm.trans q,d})
   |cont f=>$(λj y g l q=>{f,g,l,sm.trans q,d})
   |brk f=>$$$$$$d;$(λj y g l q=>k j y g l (sm.trans q))
   |ret r f=>$$$$$$d;$(λv j y g l q rr=>k v j y g l (sm.trans q) rr)
   |exc C f=>$(nO d)
def gm:AF:=λZ=>ac ([],Z)
def dm(f:DF)(g:AF):AF:=λZ=>(f Z).bind λp=>(g p.2).map λq=>(p.1::q.1,q.2)
def tY(f:AF):EF:=λZ=>(f Z).bind λp=>if p.1.length<=a9 then ac (.O<|.L p.1,p.2)else al
def vB(f:AF):DF:=λZ=>(f Z).bind λp=>if p.1.length<=a9 then ac (.U p.1,p.2)else al
def MB:DA X [] gm:={_,pS,λH0 ps Z σ H Hi ds Z' Q e S k=>by let(rfl,rfl):=sP e;$(k [] H Hi S (af.refl _) ρ)}
def Sr (o:DD X e f)(q:DA X h g)(r:bI X e h:=by rfl):DA X (e::h) (dm f g):=by let(t1,t,u):=o;let(t2,x,y):=q;$({_,kI t x r,λH0 ps Z σ H Hi ds Z' Q e S k=>?_});let(d,Z1,z,e):=oB e;let(j,Z2,A,e):=oN e;let(rfl,rfl):=sP e;$(u H0 ps Z σ H Hi d Z1 _ z S λv B l C D E=>?_);$(y H0 ps Z1 σ B l j _ _ A C λvs F m G n I=>k (v::vs) F m G (D.trans n) {v,vs,ρ,Rep.mono n E,I})
def IQ (h:DA X j f):DE X (.List j pos) (tY f):=by
 let(t,p,q):=h;$({_,MF p,λH0 ps Z σ H Hi r Z' Q e S k=>?_});let(ds,Z1,n,e):=oB e;$$$$$e
 .ext1 o;let(rfl,rfl):=sP e;$(q H0 ps Z σ H Hi ds _ _ n S λvs H1 l d u m=>{by rw[m.length];$o,λp g=>?_});$(k (.ref p) _ l (d.made g) u {p,ρ,{_,bw,m,d.dP g},(d.bU g).2,(d.bU g).1,d.eM g})
 $(nO e)
def Ue {m}(h:DA X g f):DD X (.Tuple g m pos) (vB f):=by
 let(t,p,q):=h;$({_,Hh p,λH0 ps Z σ H Hi d Z' Q e S k=>?_});let(ds,Z1,n,e):=oB e;$$$$$e
 .ext1 r;let(rfl,rfl):=sP e;$(q H0 ps Z σ H Hi ds _ _ n S λvs H1 Hi1 u v j=>{by rw[j.length];$r,λp x=>?_});let(y,l):=u.laid x;$(k (.ref p) _ _ y (v.trans l) {p,vs,ρ,bj.of bw,aw.mono l j})
 $(nO e)
abbrev aJ:=List Dat->Option Res
def RC(K:e6)(H f e:Hp)(v:V):Res->Prop
 |.D d=>Rep K e d v
 |.O c=>∃p,v=.ref p/\cC K f e p c/\H p=al
def ay(K:e6)(fn:aJ):Sp:=λvs H Q _=>∃Hi ds r,af Hi H/\aw K Hi ds vs/\fn ds=ac r /\
 ∀v e d,af H e->af Hi d->af d e->(∀p o,d p=ac o->jO Hi H p o)->RC K H e d v r->Q v e
abbrev dB:=Dat->List Dat->Option (Res×Dat)
def dr(K:e6)(j:Nat)(fn:dB):Sp:=λvs H Q _=>∃Hi p c ds r c',af Hi H/\vs[j]?=ac (.ref p)/\cC K H Hi p c/\aw K Hi ds (vs.eraseIdx j)/\fn c ds=ac (r,c') /\
 ∀v e d,(∀b o,H b=ac o->b≠p->e b=ac o)->af Hi d->af d e->(∀p o,d p=ac o->jO Hi H p o)->cC K e d p c'->RC K H e d v r->Q v e
theorem SR.after (S:SR K H0 ps Z σ H Hi)(s:af H g)(k:af Hi f)(m:af f g)(nw:∀p o,f p=ac o->jO Hi H p o)(t:RC K H g f v r):SR K H0 ps Z σ g f/\RR K H0 ps Z σ g f v r:=by
 let O:∀{q:cA}{c:Dat},cC K H Hi q c->cC K g f q c:=λ{q c} h=>by
  let((o,e),n):=h.some;apply h.keeps ((s q o e).trans e.symm) k;cases z:f q with
  |none=>rfl
  |some u=>let w||w||(vs,w):=nw q u z;simp!;simp!;$$w;let:=m _ _ z;rw[s q o e]at this;$$$$$$this;$((h.nt e).elim)
 $({{m,λb o e n=>s b o<|S.keep b o e n,λp l z=>?_,λi d e=>?_,λi c e=>?_,λi c e=>?_,S.ne,S.len,λp o e=>?_},?_})
 .cases e:H p with
  |none=>$(S.eF p l e)
  |some o=>rw[s p o e]at z;lk
 .let(w,a,b):=S.D i d e;$({w,a,Rep.mono k b})
 .let(q,a,b,j,x):=S.O i c e;$({q,a,O b,j,x})
 .let(q,a,b,j):=S.io i c e;$({q,a,O b,j})
 .let z||z||z:=nw p o e
  .$(S.nw p o z)
  .$(τ<|ι (S.bU z).1)
  $(τ<|τ z)
 cases r with
 |D d=>$t
 |O c=>let(p,e,o,n):=t;$({p,e,o,(S.bU n).2,(S.bU n).1,S.eM n})
def cE(fn:aJ)(fa:AF):EF:=λZ=>(fa Z).bind λp=>(fn p.1).map λr=>(r,p.2)
structure A6 (X:Cx) (x:ew) (sp:Sp):Prop where
 gl:Gl X x
 is:∃(CX:gU) (k:Nat) (f:cA) (fd:gi) (pn:List ew),aS X.prog X.w X.K X.mg X.base CX k f fd pn sp/\bS k X.A/\X.mg x=ac (.ref f)/\acB X.K (.ref f)=bd/\Binds X.K fd pn []/\wy CX X E0
def Ug{x:ew}{e:fA}{g:List fA}{fn:aJ}{fa:AF}{p:q7}(h:A6 X x (ay X.K fn))(y:DA X (e::g) fa)(j:bM x:=by decide)
 (z:bI X e g:=by rfl)(l:(YP pos<|ma g X.env).any (·.1)=bi:=by rfl):DE X (.Call (.Name x p) (e::g) [] pos) (cE fn fa):=by
 let(A,CX,k,f,fd,pn,F,B,C,D,E,hx):=h;let(t,G,q):=y;$({_,Ht F B A C D E .nil hx G j z l,λH0 ps Z σ H Hi r Z' Q d S k=>?_});let(ds,Z1,I,d):=oB d;let(r2,J,d):=oM d;let(rfl,rfl):=sP d;$(q H0 ps Z σ H Hi ds _ _ I S λvs H1 m n L M=>?_);$({m,ds,_,n.sub,by rw[z6];$M,J,λv N o O u R T U=>?_});let(V,W):=n.after O u R T U;$(k v N o V (L.trans u) W)
def gy(n:Nat)(ds:List Dat):DS:=ds.map Slot.D++nB (n-ds.length) .no
def ic(n:Nat)(f:SF):aJ:=λds=>(f<|gy n ds).bind λo=>match o with
 |.next _=>ac (.D .aP)
 |.ret r _=>ac r
 |_=>al
def Qx (s:af Hi H)(r:aw K Hi ds vs):SR K (H,Hi) (λ_=>al) (gy N.length ds) (start N vs) H Hi:=by
 let hl:=r.length;let f:∀{i:Nat}{s:Slot},(gy N.length ds)[i]?=ac s->(∃d,s=.D d/\ds[i]?=ac d)\/s=.no:=λ{i s} h=>by
  delta gy at h;ext(hi:i<ds.length)
  .rw[hH (by$$$$hi),ee]at h;simp!
  rw[hO (by$$$$hi)]at h;rw[aar]at h;$$$$$h
  .$$$$$$h;$(τ ρ)
  $(nO h)
 $({s,λb o e _=>e,λp l=>?_,λi d e=>?_,λi c e=>?_,λi c e=>?_,λi j c c' p k h2=>?_,?_,λp o e=>ι e})
 .let(_,z):=l;$(nO z)
 .let (d',g,h)||g:=f e
  .$$$g;let(v,a,b):=r.get h;$({v,?_,b});$$(start);rw[hH (by$$$$((bg.1 a).1)),ee,a];rfl
  lk
 .let (d',g,h)||g:=f e<;>lk
 .let (d',g,h)||g:=f e<;>lk
 .let k||k:=k<;>(let(d',g,h)||g:=f k<;>lk)
 simp![gy,start]
theorem vS{x u:ew}{st:zR}{f:cA}{B:gi}{N ps:List ew}{k:Nat}{fn:aJ}{fb:SF}(F:ba K x u st f B)(S:bq N ps (aI st))(y:∀ds r,fn ds=ac r->ds.length=ps.length)
 (I:∀(cdv:bt) (A:nL) (outer:List Env) (s:dq) (H:Hp) (E:XK),bS k (A.deeper<|HU u (aI st) s.heap.objs.size f cdv)->cY (jq aT P w K mg base N u (aI st) f cdv A outer s H E).ku (jD st) fb)
 (J:∀ds r,fn ds=ac r->ic N.length fb ds=ac r):aS P w K mg base aT (k+1) f B ps (ay K fn):=by
 $(F.ok S (λvs H Q E h=>?_)<|λcdv A outer s H vs Q E L h=>?_)
 .let(Hi,ds,r,s,rs,e,_):=h;rw[rs.length];$(y ds r e)
 let(Hi,ds,r,sm,rs,e,D):=h;let(t,p,q):=I cdv A outer s H E L;$({t,p,?_});let l:=J ds r e;let(o,M,l):=oA l;let nw:∀{Z:DS}{m:St}{n g:Hp},SR K (H,Hi) (λ_=>al) Z m n g->∀p o,g p=ac o->jO Hi H p o:=λj p o e=>j.nw p o e;let kp:∀{Z:DS}{m:St}{n g:Hp},SR K (H,Hi) (λ_=>al) Z m n g->af H n:=λj b o e=>j.keep b o e<|λ⟨_,z⟩=>by$(nO z)
 apply q (H,Hi) (λ_=>al) (gy N.length ds) (start N vs) H Hi o _ M<|Qx sm rs;cases o with
 |next Z=>$$$$$$l;$(λm n g j s'=>D .aP n g (kp j) s' j.sub (nw j) ρ)
 |ret r' Z =>
  $$$l;$(λv m n g j s' G=>D v n g (kp j) s' j.sub (nw j) ?_);cases r with
  |D d=>$G
  |O c=>let(p,O,o,np,R,_):=G;$(⟨p,O,o,R⟩)
 |brk Z=>$(nO l)
 |cont Z=>$(nO l)
 |exc C Z=>$(nO l)
def kY(K:e6)(f:DF):TE:=λσ H Q=>∃H0 ps Z Hi d g,f Z=ac (d,g)/\SR K H0 ps Z σ H Hi/\∀v h e,SR K H0 ps g σ h e->af Hi e->Rep K e d v->Q v h
def la(K:e6)(f:BF):TT:=λσ H Q=>∃H0 ps Z Hi d g,f Z=ac (d,g)/\SR K H0 ps Z σ H Hi/\∀h e,SR K H0 ps g σ h e->af Hi e->Q d h
def lE(K:e6)(g:GF):TG:=λv σ H Q=>∃H0 ps Z Hi d f,g d Z=ac f/\SR K H0 ps Z σ H Hi/\Rep K Hi d v/\∀e,SR K H0 ps f e H Hi->Q e H
def DD.mQ (h:DD X e f):PE X e (kY X.K f):=by let(t,p,q):=h;ext pins s σ H Q I ⟨H0,ps,Z,Hi,d,g,j,S,k⟩;$(p pins s σ H Q I<|q H0 ps Z σ H Hi d g Q j S k)
def DG.mQ (h:DG X e g):PG X e (lE X.K g):=by let(t,p,q):=h;ext pins s σ H v u Q I r ⟨H0,ps,Z,Hi,d,f,j,S,rd,k⟩;$(p pins s σ H v u Q I r<|q H0 ps Z σ H Hi d f v Q j S rd k)
def lP(X:Cx)(ifs:List fA)(f:BF):Prop:=PF X ifs<|la X.K f
theorem U'{X:Cx}:lP X [] (λZ=>ac (true,Z)):=by ext pins s σ H Q I ⟨H0,ps,Z,Hi,d,Z',e,S,k⟩;let(rfl,rfl):=sP e;$(NU pins s σ H Q I<|k H Hi S<|af.refl _)
def Tx{X:Cx}{c:fA}{f:BF}(h:DT X c f):lP X [c] f:=by let(t,p,q):=h;ext pins s σ H Q I ⟨H0,ps,Z,Hi,d,e,g,S,k⟩;$(Uv p pins s σ H Q I<|q H0 ps Z σ H Hi d e Q g S k)
def noOwn(Z:DS):Bool:=Z.all λs=>match s with|.O _=>false|_=>true
theorem G8{Z:DS}(h:noOwn Z=bd){i:Nat}{c:Dat}:Z[i]?≠ac (.O c):=λe=>by let:=ib.1 h _<|eK e;lk
def aZ(d:Option (Nat×Nat)):List (Option Nat)->DS->DS
 |[],Z=>Z
 | o::r,Z=>aZ d r (match o with
  |some j=>if d.map ago=ac j then Z else(match Z[j]? with|some (.O c)=>Z.set j (.D c)|_=>Z)
  |none=>Z)
def cD(caps:List (Option Nat))(Z:DS):DS:=caps.map λo=>match o with
 |some j=>(match Z[j]? with|some (.D d)=>.D d|_=>.no)
 |none=>.no
def compLoop(g:GF)(fc:BF)(fe:DF):List Dat->List Dat->DS->Option (List Dat×DS)
 |[],d,Z=>ac (d,Z)
 | x::xs,d,Z=>(g x Z).bind λZ1=>(fc Z1).bind λp=>if p.1=bd then(fe p.2).bind λq=>if d.length<a9/\noOwn q.2=bd then compLoop g fc fe xs (d++[q.1]) q.2 else al
   else if noOwn p.2=bd then compLoop g fc fe xs d p.2 else al
def eO(caps:List (Option Nat))(d:Option (Nat×Nat))(fi:IF)(g:GF)(fc:BF)(fe:DF):EF:=λZ=>(fi Z).bind λp =>
 let Z1:=aZ d caps p.2
 match d with
 |none=>(compLoop g fc fe p.1 []<|cD caps Z1).map λq=>(.O<|.L q.1,Z1)
 | some (k,j)=>if caps[k]?=ac (ac j)then(match Z1[j]? with
  |some (.O c)=>(compLoop g fc fe p.1 []<|(cD caps Z1).set k (.io c)).bind λq=>(match q.2[k]? with|some (.io c')=>ac (.O<|.L q.1,Z1.set j<|.O c')|_=>al)
  |some (.io c)=>(compLoop g fc fe p.1 []<|(cD caps Z1).set k (.io c)).bind λq=>(match q.2[k]? with|some (.io c')=>ac (.O<|.L q.1,Z1.set j<|.io c')|_=>al)
  |_=>al)else al
theorem oP(d):∀(caps:List (Option Nat)) {Z:DS}{H Hi:Hp},SR K H0 ps Z σ H Hi->∃f,SR K H0 ps (aZ d caps Z) σ H f/\af Hi f
 |[],_,_,Hi,S=>{Hi,S,af.refl _}
 |none::r,_,_,_,S=>oP d r S
 | some j::r,Z,H,Hi,S=>by
  $$(aZ);dsimp;ext(g:d.map ago=ac j)
  .rw[if_pos g];$(oP d r S)
  rw[if_neg g];split
  .ext1 c e;let(Hi1,v,_,k,l,_):=S.yw e;let(h,m,n):=oP d r k;$({h,m,l.trans n})
  $(oP d r S)
def SR.rebase (S:SR K H0 ps Z σ H Hi)(n:noOwn Z=bd):SR K (H,Hi) ps Z σ H Hi :=
 {S.sub,λb o e _=>e,S.eF,S.D,λi c e=>absurd e<|G8 n,S.io,S.ne,S.len,λp o e=>ι e}
theorem F8{caps:List (Option Nat)}{Z:DS}{k:Nat}{d:Dat}(h:(cD caps Z)[k]?=ac (.D d)):∃j:Nat,caps[k]?=ac (ac j)/\Z[j]?=ac (.D d):=by
 unfold cD at h;rw[ee]at h;cases e:caps[k]? with
 |none=>rw[e]at h;$(nO h)
 |some o =>
  rw[e]at h;cases o with
  |none=>$$$h
  |some j=>$({j,ρ,?_});simp at h;$$$$$h;simp!;lk
theorem mM{caps:List (Option Nat)}{Z:DS}{k:Nat}{c:Dat}:(cD caps Z)[k]?≠ac (.O c)/\(cD caps Z)[k]?≠ac (.io c):=by
 delta cD;rw[ee];cases e:caps[k]? with
 |none=>simp
 |some o =>
  cases o with
  |none=>simp
  |some j =>
   simp?[sj];constructor
   all_goals
    ext z;let z:=Option.some.inj z;$$$$$z<;>lk
def xn{caps:List (Option Nat)}{k j:Nat}{v:V}(h:caps[k]?=ac (ac j))(e:σ[j]?=ac (ac v)):(fg caps σ)[k]?=ac (ac v):=by simp![fg]
def N5 (S:SR K H0 ps Z σ H Hi):SR K (H,Hi) (λ_=>al) (cD caps Z) (fg caps σ) H Hi:=by
 $({S.sub,λb o e _=>e,λp l=>?_,λk d e=>?_,λk c e=>absurd e mM.1,λk c e=>absurd e mM.2,λk k' c c' p h=>?_,?_,λp o e=>ι e})
 .let(_,z):=l;$(nO z)
 .let(j,f,g):=F8 e;let(v,a,b):=S.D j d g;$({v,xn f a,b})
 .let h||h:=h
  .$(absurd h mM.1)
  $(absurd h mM.2)
 simp[cD,fg]
theorem Hq {Qf:Hp->Prop}(S0:SR K (A,j) psB R be A j)(n0:noOwn R=bd)(T:A D=al)(jw:JW K J items j)(ef:compLoop g fc fe items [] R=ac (L,Ze))(Wj:∀k f d vs,SR K (f,d) psB Ze k f d->af j d->(∀b o,A b=ac o->¬fY psB b->f b=ac o)->(∀p o,d p=ac o->jO j A p o)->f D=ac (.L vs)->aw K d L vs->d D=al->Qf f) :
  ∃W:Nat->Nat->St->Hp->Prop,(∃m,W 0 m be<|upd A D<|.L [])/\∀i m k f,W i m k f->(J.stop i f/\Qf f)\/(J.go i f/\∀x C,J.lJ i f x C->lE K g x k C λE H2=>la K fc E H2 λb H3 =>
   if b=bd then kY K fe E H3 λy F=>∃ys,F D=ac (.L ys)/\ys.length<a9/\∃M,M<m/\W (i+1) M E (upd F D<|.L<|ys++[y])
   else∃M,M<m/\W (i+1) M E H3):=by
 let nl:¬fY psB D:=λl=>S0.eF D l T;let yq:=S0.dP T;let N:∀{Z:DS}{σ:St}{H Hi:Hp}{H0:Hp×Hp}(vs:List V),SR K H0 psB Z σ H Hi->noOwn Z=bd->Hi D=al->SR K (upd H D<|.L vs,Hi) psB Z σ (upd H D<|.L vs) Hi:=λ{Z σ H Hi H0} vs S n hd=>by
  refine{tZ S.sub hd,λb o e _=>e,λp l=>?_,S.D,λi c e=>absurd e<|G8 n,λi c e=>?_,S.ne,S.len,λp o e=>ι e}
  .let hp:p≠D:=λz=>nl (by rw[<-z];$l);rw[aA hp];$(S.eF p l)
  let(q,a,b,c1):=S.io i c e;let hq:q≠D:=λz=>nl (by rw[<-z];$(⟨i,c1⟩));$({q,a,b.keeps (aA hq) (af.refl _) b.some.2,c1})
 refine⟨λi m k f=>m=items.length-i/\i<=items.length/\∃Z d G vs,SR K (f,d) psB Z k f d/\noOwn Z=bd/\af j d/\(∀b o,A b=ac o->¬fY psB b->f b=ac o)/\(∀p o,d p=ac o->jO j A p o) /\
   f D=ac (.L vs)/\aw K d G vs/\d D=al/\compLoop g fc fe (items.drop i) G Z=ac (L,Ze),
  {items.length,⋯,rp _,R,j,[],[],N [] S0 n0 yq,n0,af.refl _,λb o e _=>by rw[aA (df e T)];$e,λp o e=>ι e,bw,ρ,yq,by$$$$ef},?_⟩
 ext i m k f ⟨rfl,hi,Z,d,G,vs,S,n,sm,kb,nb,U,ra,hd,h⟩;let O:=jw i f<|sm.trans S.sub;let base:∀{p:cA},f p=al->A p=al:=λ{p} z=>by
  cases e:A p with
  |none=>rfl
  |some o =>
   ext(l:fY psB p)
   .exact absurd z<|S.eF p l
   rw[kb p o e l]at z;lk
 ext(I:i<items.length)
 .let eg:=b8 I;rw[ac9 I]at h;let(Z1,e2,h):=oA h;let(b,Z2,e3,h):=oB h;dsimp at h;$(τ {(O.1 _ eg).1,λx C y=>?_});obtain⟨t,Wn,Q,rx⟩:∃t,SR K (f,d) psB Z k C t/\af d t/\Rep K t items[i] x:=by
   let(rfl,r)||(p,ob,nn,rfl,r):=(O.1 _ eg).2 x C y
   .exact{d,S,af.refl _,Rep.mono sm r}
   let(a,b):=S.laid nn;$({_,a,b,r d sm<|S.dP nn})
  refine{(f,d),psB,Z,t,_,Z1,e2,Wn,rx,λE S2=>?_};$({(f,d),psB,Z1,t,b,Z2,e3,S2,λH3 V7 S3 s3=>?_});let kp:∀{Z4:DS}{V8:St}{F u:Hp},SR K (f,d) psB Z4 V8 F u->F D=ac (.L vs)/\u D=al/\(∀b o,A b=ac o->¬fY psB b->F b=ac o)/\(∀p o,u p=ac o->jO j A p o):=λ{Z4 V8 F u} B=>by
   refine{B.keep D _ U nl,?_,λb o e l=>B.keep b o (kb b o e l) l,λp o e=>?_}
   .cases z:u D with
    |none=>rfl
    |some o =>
     let w||w||(ts,w):=B.nw D o z
     .let w:d D=ac o:=w;rw[hd]at w;$(nO w)
     .let w:f D=al:=w;rw[U]at w;lk
     subst w;let t1:=B.sub _ _ z;rw[B.keep D _ U nl]at t1;$$$t1
   let w||w||w:=B.nw p o e
   .exact nb p o w
   .exact τ<|ι<|base w
   exact τ<|τ w
  cases b with
  |false =>
   simp?[qp,if_false]at h;$$$$$h
   .ext1 n2;let(a1,Y,a3,a4):=kp S3;$({items.length-(i+1),⋯,ρ,I,Z2,V7,G,vs,S3.rebase n2,n2,(sm.trans Q).trans s3,a3,a4,a1,aw.mono (Q.trans s3) ra,Y,h})
   exact nO h
  |true =>
   let(yd,Z3,e4,h):=oB h;$$$$$h
   .ext1 hz;$({(f,d),psB,Z2,V7,yd,Z3,e4,S3,λv F u B s4 ry=>?_});let(a1,Y,a3,a4):=kp B;let sa:=(Q.trans s3).trans s4;$({vs,a1,by rw[ra.length];$(hz.1),items.length-(i+1),⋯,ρ,I,Z3,u,G++[yd],vs++[v],N _ B hz.2 Y,hz.2,sm.trans sa,λb o e l=>?_,a4,bw,aw.append (aw.mono sa ra) {v,[],ρ,ry,ρ},Y,h});rw[aA (df e T)];$(a3 b o e l)
   exact nO h
 let ei:i=items.length:=by lia
 subst ei;rw[aeG]at h;$$$h;$(ι {O.2<|eS _,Wj k f d vs S sm kb nb U ra hd})
theorem C7:noOwn (cD caps Z)=bd:=by
 delta noOwn;rw[ib];ext s d;let(k,e):=List.getElem?_of_mem d;cases s with
 |O c=>$(absurd e mM.1)
 |_=>rfl
def B5 (y:∀(H0:Hp×Hp) (ps:Nat->Option cA) (Z:DS) (σ:St) (H Hi:Hp) (items:List Dat) (j:DS) (R:It->Hp->Prop),fi Z=ac (items,j)->SR X.K H0 ps Z σ H Hi->(∀J m h,SR X.K H0 ps j σ m h->af Hi h->JW X.K J items h->R J m)->n σ H R)(H0)(ps)(Z)(σ)(H Hi)(r)(j)(Q)(f:eO caps al fi g fc fe Z=ac (r,j))(S:SR X.K H0 ps Z σ H Hi)(k:∀v l d,SR X.K H0 ps j σ l d->af Hi d->RR X.K H0 ps j σ l d v r->Q v l):vt (fg caps) n (lE X.K g) (la X.K fc) (kY X.K fe) σ H Q:=by
 let(items,Z1,A,f):=oB f;dsimp at f;let(q,Ze,B,f):=oN f;let(rfl,rfl):=sP f;$(y H0 ps Z σ H Hi items Z1 _ A S λJ m h C E F=>?_);ext D t;let(Hi2,u,x):=oP al caps C;$(Hq (N5 u) C7 t (F.mono x) B λσ' l d vs G sm kb I L ra hd=>?_);let M:af m l:=λb o e=>kb b o e<|λ⟨_,z⟩=>by$(nO z)
 let(N,O):=u.after (r:=.O<|.L q) M sm G.sub I {D,ρ,⟨vs,L,ra,hd⟩,t};$(k (.ref D) l d N ((E.trans x).trans sm) O)
def Rx (k:X.calm=bd)(B:i8 X.env.scope scope)(j:gA X.N NB scope caps=bd)(hi:dv X h iter fi)(l:∀(e:List (ew×cA)) (C:cA) (d:dq) (H:Hp) (f:List cA),DG (cu X NB scope e C d H f) h g)(m:∀(e:List (ew×cA)) (C:cA) (d:dq) (H:Hp) (f:List cA),lP (cu X NB scope e C d H f) ifs fc)(n:∀(e:List (ew×cA)) (C:cA) (d:dq) (H:Hp) (f:List cA),DD (cu X NB scope e C d H f) elt fe)(o:∀x,pw iter X.env x=pure x:=by ext _;rfl) :
  DE X (.ListComp elt [{h,iter,ifs,0}] scope pos) (eO caps al fi g fc fe):=by
 let(wi,q,r):=hi;$({_,F5 (tc:=la X.K fc) k B j q (λe C d H f=>{(l e C d H f).mQ,m e C d H f,(n e C d H f).mQ}) o,B5 r})
def Ks (i:Nat)(u:X.N.Nodup)(n:X.N[i]?=ac y)(z:Loc X.env.scope y)(A:X.fn y=bd\/X.env.scope.names.lookup y=some .local)(E:X.calm=bd)(B:i8 X.env.scope scope)(m:gA X.N NB scope caps=bd)(hi:dv X l iter fi)(F:∀(f:List (ew×cA)) (C:cA) (d:dq) (H:Hp) (h:List cA),DG (cu X NB scope f C d H h) l g)(G:∀(f:List (ew×cA)) (C:cA) (d:dq) (H:Hp) (h:List cA),lP (cu X NB scope f C d H h) ifs fc)(I:∀(f:List (ew×cA)) (C:cA) (d:dq) (H:Hp) (h:List cA),DD (cu X NB scope f C d H h) elt fe)(q:um (.ListComp elt [{l,iter,ifs,0}] scope pos) (ac<|.Name y py) j.line X.env=pure true)(J:∀x,pw iter X.env x=pure x:=by ext _;rfl) :
  cH X (.Assign [.Name y py] (.ListComp elt [{l,iter,ifs,0}] scope pos) j) (gK i<|eO caps al fi g fc fe):=by
 let(wi,L,M):=hi;$({_,J4 (g:=lE X.K g) (tc:=la X.K fc) (te:=kY X.K fe) u n z E B m L (λf C d H h=>{(F f C d H h).mQ,G f C d H h,(I f C d H h).mQ}) q J A,λH0 ps Z σ H Hi o D e S k=>?_});let(r,Z1,O,e):=oB e;let(Z2,Q,e):=oM e;$$$$$$e;$(B5 M H0 ps Z σ H Hi r Z1 _ O S λv R t T s' U=>k _ R t (T.put U Q) s')
def UR(K:e6)(ta tb:TE):TE:=λσ H Q=>ta σ H λx d=>∃c,pN K x d c/\if c=bd then Q x d else tb σ d Q
def Su(K:e6)(ta tb:TE):TE:=λσ H Q=>ta σ H λx d=>∃c,pN K x d c/\if c=bd then tb σ d Q else Q x d
theorem PB(k:PE X a ta)(l:PE X (.BoolOp .Or (b::rest) pos) tb):PE X (.BoolOp .Or (a::b::rest) pos) (UR X.K ta tb):=by
 $(λpins s σ H Q I h=>BoolOp_or (aF (k pins s σ H _ I h) λv m q=>?_));let(x,e,n,f,c,tc,g):=q;$(aF (we pins m σ e x v (λc' d=>c'=c/\d=e) n f ⟨c,tc,ρ,ρ⟩) λc' o h=>?_);let(d,j,q,r):=h;subst q r;cases c' with
 |false=>$(l pins o σ d Q j g)
 |true=>$(⟨x,d,j,f,g⟩)
theorem Rb(k:PE X a ta)(l:PE X (.BoolOp .And (b::rest) pos) tb):PE X (.BoolOp .And (a::b::rest) pos) (Su X.K ta tb):=by
 $(λpins s σ H Q I h=>BoolOp_and (aF (k pins s σ H _ I h) λv m q=>?_));let(x,e,n,f,c,tc,g):=q;$(aF (we pins m σ e x v (λc' d=>c'=c/\d=e) n f ⟨c,tc,ρ,ρ⟩) λc' o h=>?_);let(d,j,q,r):=h;subst q r;cases c' with
 |true=>$(l pins o σ d Q j g)
 |false=>$(⟨x,d,j,f,g⟩)
def L7(K:e6)(ta:TE):TE:=λσ H Q=>ta σ H λx d=>∃c,pN K x d c/\Q (.bl<|!c) d
def MV(f:PE X a ta):PE X (.UnaryOp .Not a pos) (L7 X.K ta):=by$(λpins s σ H Q I h=>UnaryOp_ (aF (f pins s σ H _ I h) λv g q=>?_));let(x,e,j,k,c,tc,l):=q;$(not_of (aF (we pins g σ e x v (λc' d=>c'=c/\d=e) j k ⟨c,tc,ρ,ρ⟩) λc' s2 h=>?_));let(d,m,n,o):=h;subst n o;$({.bl<|!c',d,m,ρ,l})
def kQ:Dat->Option Bool
 |.aP=>ac false
 |.bl b=>ac b
 |.int i=>ac (i != 0)
 |.str x=>if x.length<=a9 then ac ((x.length:Int) != 0)else al
 |.L ds=>ac (!ds.isEmpty)
 |.U ds=>ac (!ds.isEmpty)
 |.cg d=>ac (!d.isEmpty)
 |.exc _=>al
 |.ins _ _=>al
 |.cM _=>al
 |.adr _=>al
 |.eQ _=>al
 |.bA _ _=>al
def yZ{d e:Type}{xs:List d}{ys:List e}(h:xs.length=ys.length):xs.isEmpty=ys.isEmpty:=by
 $$$xs<;>$$$ys<;>first|rfl|(simp at h)
theorem bN.length{K:e6}{H:Hp}:∀{d:List (ew×Dat)}{kvs:List (Key×V)},bN K H d kvs->kvs.length=d.length
 |[],_,h=>by rw[show _=[]from h];rfl
 |(_,_)::_,_,f=>by let(v,r,e,q,t):=f;simp?[e,fq,fq,bN.length t]
theorem v9{K:e6}{H Hi:Hp}{d:Dat}{v:V}{c:Bool}(s:af Hi H)(r:Rep K Hi d v)(e:kQ d=ac c):pN K v H c:=by
 cases d with
 |aP=>$$r;$$$$$$e;$ρ
 |bl b=>$$r;$$$$$$e;$ρ
 |int i=>$$r;$$$$$$e;$ρ
 |str x =>
  $$r;let e:(if x.length<=a9 then ac ((x.length:Int) != 0)else al)=ac c:=e;$$$$$e
  .ext1 g;$$$$$$e;$(⟨g,ρ⟩)
  $(nO e)
 |L ds=>let(p,vs,rfl,q,rs):=r;$$$e;$(ι {vs,ι<|Rd.mono s q,by rw[yZ rs.length]})
 |U ds=>let(p,vs,rfl,q,rs):=r;$$$e;$(τ (ι {vs,bj.mono s q,by rw[yZ rs.length]}))
 |cg f=>let(p,vs,rfl,q,rs):=r;$$$$$$e;$(τ (τ {vs,s _ _ q,by rw[yZ (bN.length rs)]}))
 |exc C=>$(nO e)
 |ins C fs=>$(nO e)
 |cM ns=>$(nO e)
 |adr p=>$(nO e)
 |eQ f=>$(nO e)
 |bA fz f=>$(nO e)
def m9(f:DF):BF:=λZ=>(f Z).bind λp=>(kQ p.1).map λc=>(c,p.2)
def e9(f:EF):BF:=λZ=>(f Z).bind λp=>match p.1 with
 |.D (.bl b)=>ac (b,p.2)
 |_=>al
def oh(f:BF):BF:=λZ=>(f Z).map λp=>(!p.1,p.2)
def oJ(f g:BF):BF:=λZ=>(f Z).bind λp=>if p.1=bd then g p.2 else ac (false,p.2)
def qd(f g:BF):BF:=λZ=>(f Z).bind λp=>if p.1=bd then ac (true,p.2)else g p.2
def uW(f:DF):DF:=λZ=>(f Z).bind λp=>(kQ p.1).map λc=>(.bl<|!c,p.2)
def oU(f g:DF):DF:=λZ=>(f Z).bind λp=>(kQ p.1).bind λc=>if c=bd then g p.2 else ac p
def vv(f g:DF):DF:=λZ=>(f Z).bind λp=>(kQ p.1).bind λc=>if c=bd then ac p else g p.2
def Mn (h:DD X a f)(l:∀whole,aej a X.env whole=(do let v <-whole;ads a.pos;aap [v] (truthy v))):DT X a (m9 f):=by let(t,p,q):=h;$({_,SJ p l,λH0 ps Z σ H Hi c Z' Q e S k=>?_});let(d,Z1,m,e):=oB e;let(c',n,e):=oM e;let(rfl,rfl):=sP e;$(q H0 ps Z σ H Hi d _ _ m S λv o g j s' r=>{_,v9 j.sub r n,k o g j s'})
theorem lM{op:adH}{r:R2}{d:Dat->Dat->Option Res}{f g:DF}(j:aV X (j' op) r)(l:ff X r d)(m:DD X a f)(n:DD X b g)(o:tm op b=bi):DT X (.Compare a [op] [b] pos) (e9<|cK d f g):=by
 let(ta,q,t):=m;let(tb,u,x):=n;$({_,xg j q u o,λH0 ps Z σ H Hi c Z' Q e S k=>?_});let(rs,Z1,y,e):=oB e;dsimp at e;$$$$$e
 .let(rfl,rfl):=sP e;$(xM l t x H0 ps Z σ H Hi _ _ _ y S λv z h A s' B=>{_,B,k z h A s'})
 $(nO e)
def P9 (h:DT X a f):DT X (.UnaryOp .Not a pos) (oh f):=by let(t,p,q):=h;$({_,(λe=>by$(λd s f H Q I h=>isTrue_not<|e d s f H (λc g=>Q (!c) g) I h)) p,λH0 ps Z σ H Hi c Z' Q e S k=>?_});let(d,Z1,j,e):=oN e;let(rfl,rfl):=sP e;$(q H0 ps Z σ H Hi d _ _ j S λl g m s'=>k l g m s')
def K' (h:DT X a f):DW X (.BoolOp .And [a] pos) f:=let⟨t,p,q⟩:=h;{t,Uc p,q}
def JD (h:DT X a f):DW X (.BoolOp .Or [a] pos) f:=let⟨t,p,q⟩:=h;{t,Kx p,q}
theorem Jp (o:DT X a f)(q:DW X (.BoolOp .And (b::rest) pos) g):DW X (.BoolOp .And (a::b::rest) pos) (oJ f g):=by
 let(t1,r,t):=o;let(t2,u,v):=q;$({_,Ur r u,λH0 ps Z σ H Hi c j Q e S k=>?_});let(d,Z1,x,e):=oB e;$(t H0 ps Z σ H Hi d Z1 _ x S λl h m s'=>?_);cases d with
 |true=>$(v H0 ps Z1 σ l h c j Q e m λy n z A=>k y n z (s'.trans A))
 |false=>let(rfl,rfl):=sP e;$(k l h m s')
theorem Tv (o:DT X a f)(q:DW X (.BoolOp .Or (b::rest) pos) g):DW X (.BoolOp .Or (a::b::rest) pos) (qd f g):=by
 let(t1,r,t):=o;let(t2,u,v):=q;$({_,UP r u,λH0 ps Z σ H Hi c j Q e S k=>?_});let(d,Z1,x,e):=oB e;$(t H0 ps Z σ H Hi d Z1 _ x S λl h m s'=>?_);cases d with
 |false=>$(v H0 ps Z1 σ l h c j Q e m λy n z A=>k y n z (s'.trans A))
 |true=>let(rfl,rfl):=sP e;$(k l h m s')
def Tj (h:DD X a f):DD X (.UnaryOp .Not a pos) (uW f):=by let(t,p,q):=h;$({_,MV p,λH0 ps Z σ H Hi c Z' Q e S k=>?_});unfold uW at e;let(d,Z1,l,e):=oB e;let(c',m,e):=oM e;let(rfl,rfl):=sP e;$(q H0 ps Z σ H Hi d _ _ l S λv n g j s' r=>{_,v9 j.sub r m,k _ n g j s' ρ})
def Us{op}(h:DD X a f):DD X (.BoolOp op [a] pos) f:=let⟨t,p,q⟩:=h;{t,NN p,q}
theorem Uz (o:DD X a f)(q:DD X (.BoolOp .And (b::rest) pos) g):DD X (.BoolOp .And (a::b::rest) pos) (oU f g):=by
 let(t1,t,u):=o;let(t2,x,y):=q;$({_,Rb t x,λH0 ps Z σ H Hi c l Q e S k=>?_});let(d,Z1,z,e):=oB e;let(c',A,e):=oA e;$(u H0 ps Z σ H Hi d Z1 _ z S λv m h j s' r=>{c',v9 j.sub r A,?_});cases c' with
 |true=>$(y H0 ps Z1 σ m h c l Q e j λB C n D E F=>k B C n D (s'.trans E) F)
 |false=>let(rfl,rfl):=sP e;$(k v m h j s' r)
theorem Li (o:DD X a f)(q:DD X (.BoolOp .Or (b::rest) pos) g):DD X (.BoolOp .Or (a::b::rest) pos) (vv f g):=by
 let(t1,t,u):=o;let(t2,x,y):=q;$({_,PB t x,λH0 ps Z σ H Hi c l Q e S k=>?_});let(d,Z1,z,e):=oB e;let(c',A,e):=oA e;$(u H0 ps Z σ H Hi d Z1 _ z S λv m h j s' r=>{c',v9 j.sub r A,?_});cases c' with
 |false=>$(y H0 ps Z1 σ m h c l Q e j λB C n D E F=>k B C n D (s'.trans E) F)
 |true=>let(rfl,rfl):=sP e;$(k v m h j s' r)
mutual
noncomputable def toPy:Dat->PyData
 |.aP=>.none
 |.bl b=>.bool b
 |.int i=>.int i
 |.str x=>.str x
 |.U xs=>.tuple (cR xs)
 |.L xs=>.list (cR xs)
 |.cg _=>.dict []
 |.exc _=>.none
 |.ins _ _=>.none
 |.cM _=>.none
 |.adr _=>.none
 |.eQ _=>.none
 |.bA _ _=>.none
noncomputable def cR:List Dat->List PyData
 |[]=>[]
 |d::r=>toPy d::cR r
end
mutual
/-- no dict within -/
noncomputable def jj:Dat->Bool
 |.U xs=>jA xs
 |.L xs=>jA xs
 |.cg _=>false
 |.exc _=>false
 |.ins _ _=>false
 |.cM _=>false
 |.adr _=>false
 |.eQ _=>false
 |.bA _ _=>false
 |_=>true
noncomputable def jA:List Dat->Bool
 |[]=>true
 |d::r=>jj d&&jA r
end
mutual
theorem jd(I:Inv X pins σ H s)(sm:af Hi H):∀{d:Dat}{v:V}{u:bt},jj d=bd->Rep X.K Hi d v->RelV v u->∃as,Reads s.heap u (toPy d) as
 | .aP,_,_,_,r,q=>by
  cases r
  cases q
  exact{_,.none}
 | .bl b,_,_,_,r,q=>by
  cases r
  cases q
  exact{_,.bool b}
 | .int i,_,_,_,r,q=>by
  cases r
  let(t,rfl):=q
  exact{_,.int i t}
 | .str x,_,_,_,r,q=>by
  cases r
  let(t,rfl):=q
  exact{_,.str x t}
 | .U ds,_,_,p,r,q=>by
  let(a,vs,rfl,f,rs):=r
  cases q
  let(its,g,(o,e,j,n,l),_):=I.tuple<|bj.mono sm f
  let(as,h):=qC I sm (show jA ds=bd from p) rs g
  exact{_,.tuple e j l (by simpa using h)}
 | .L ds,_,_,p,r,q=>by
  let(a,vs,rfl,f,rs):=r
  cases q
  let(z,its,n,g,e):=(Rd.mono sm f).ok I.aj
  let(as,h):=qC I sm (show jA ds=bd from p) rs g
  exact{_,.list e rfl rfl (by simpa using h)}
 |.cg _,_,_,p,_,_=>by cases p
 |.exc _,_,_,p,_,_=>by cases p
 |.ins _ _,_,_,p,_,_=>by cases p
 |.cM _,_,_,p,_,_=>by cases p
 |.adr _,_,_,p,_,_=>by cases p
 |.eQ _,_,_,p,_,_=>by cases p
 |.bA _ _,_,_,p,_,_=>by cases p
theorem qC(I:Inv X pins σ H s)(sm:af Hi H):∀{ds:List Dat}{vs:List V}{k:List bt},jA ds=bd->aw X.K Hi ds vs->aH vs k->∃as,ReadsAll s.heap k (cR ds) as
 | [],_,_,_,r,q=>by
  cases(show _=[]from r)
  cases q
  exact{_,.nil}
 | d::ds,_,_,p,r,q=>by
  let(v,vr,rfl,m,y):=r
  cases q with
  |cons A B =>
   have p:=hG.1 (show(jj d&&jA ds)=bd from p)
   let(as,e):=jd I sm p.1 m A
   let(bs,j):=qC I sm p.2 y B
   exact{_,.cons e j}
end
def bL(d:Dat):Bool:=jj d&&adl (toPy d)
def dU(d e:Dat):Bool:=qe (toPy d)<|toPy e
def C1(neg:Bool):Dat->Dat->Option Res
 |.L (_::_),.L []=>ac (.D<|.bl neg)
 |_,_=>al
def fE(neg:Bool):Dat->Dat->Option Res:=λd e=>if bL d&&bL e then ac (.D<|.bl (if neg then !dU d e else dU d e))else C1 neg d e
def ze(K:e6)(neg:Bool):R2:=λx y H Q=>∃Hi d e,af Hi H/\Rep K Hi d x/\Rep K Hi e y/\bL d=bd/\bL e=bd/\Q (.bl (if neg then !dU d e else dU d e)) H
def wV(neg:Bool):R2:=λx y H Q=>∃l b z d,x=.ref l/\y=.ref b/\Rd H l (.L (z::d))/\Rd H b (.L [])/\Q (.bl neg) H
def yb(K:e6)(neg:Bool):R2:=λx y H Q=>ze K neg x y H Q\/wV neg x y H Q
def HX{pins:List (cA×ua)}{σ:St}{H:Hp}{s:dq}(I:Inv X pins σ H s){l b:cA}{z:V}{h:List V}(j:Rd H l (.L (z::h)))(k:Rd H b (.L [])):∃f g:Array bt,s.heap.IsList l f/\s.heap.IsList b g/\(f.size != g.size)=bd:=by let(z1,its,n,r,e):=j.ok I.aj;let(z2,d,n2,m,o):=k.ok I.aj;let t:=m.length;$({its.toArray,d.toArray,{_,e,ρ,n,ρ},{_,o,ρ,n2,ρ},?_});simp?[fv,<-r.length,<-t];rfl
def Ik(d:X.A.units+64<r0):aV X (j' .Eq) (yb X.K false):=aV.or ((λj=>by ext pins s σ H x y v u Q I rx k h;let(Hi,d,e,sm,l,m,f,g,q):=h;let f:=hG.1 f;let g:=hG.1 g;let(as,n):=jd I sm f.1 l rx;let(bs,o):=jd I sm g.1 m k;$(eq_dataH n o f.2 g.2 j {.bl<|dU d e,H,I,ρ,q})) d)<|(λhu=>by ext pins s σ H x y v u Q I rx d h;let(l,b,z,zs,rfl,rfl,e,f,q):=h;$$rx;$$d;let(i1,i2,a,c,g):=HX I e f;$(agj a c g (by lia) _ _ _ _ ⟨.bl false,H,I,ρ,q⟩)) d
def CJ(d:X.A.units+64<r0):aV X (j' .NotEq) (yb X.K true):=aV.or ((λj=>by ext pins s σ H x y v u Q I rx k h;let(Hi,d,e,sm,l,m,f,g,q):=h;let f:=hG.1 f;let g:=hG.1 g;let(as,n):=jd I sm f.1 l rx;let(bs,o):=jd I sm g.1 m k;$(ne_dataH n o f.2 g.2 j {.bl<|!dU d e,H,I,ρ,q})) d)<|(λhu=>by ext pins s σ H x y v u Q I rx d h;let(l,b,z,zs,rfl,rfl,e,f,q):=h;$$rx;$$d;let(i1,i2,a,c,g):=HX I e f;$(afP a c g (by lia) _ _ _ _ ⟨.bl true,H,I,ρ,q⟩)) d
def uR:ff X (yb X.K neg) (fE neg):=by
 ext H0 ps Z σ H Hi x y d d' o Q e S rx g k;delta fE at e;$$$$$e
 .ext1 f;let f:=hG.1 f;$$$$$$e;$(ι {Hi,d,d',S.sub,rx,g,f.1,f.2,k _ H Hi S (af.refl _) ρ})
 delta C1 at e;$$$$$e
 .$$$$$$e;let(p,vs,rfl,h,j):=rx;let(l,m,rfl,n,q):=g;let(z,r,rfl,_,_):=j;cases(q);$(τ {p,l,z,r,ρ,ρ,Rd.mono S.sub h,Rd.mono S.sub n,k _ H Hi S (af.refl _) ρ})
 $(nO e)
def inD(d:Dat)(ds:List Dat):Bool:=(cR ds).any λy=>qe y<|toPy d
def xk(neg:Bool):Dat->Dat->Option Res
 |d,.L ds=>if bL d&&bL (.L ds)then ac (.D<|.bl (if neg then !inD d ds else inD d ds))else al
 |d,.U ds=>if bL d&&bL (.U ds)then ac (.D<|.bl (if neg then !inD d ds else inD d ds))else al
 |.str x,.str y=>ac (.D<|.bl (if neg then !(!(lq y x 0 y.length 1).isEmpty)else !(lq y x 0 y.length 1).isEmpty))
 |_,_=>al
def Be(K:e6)(neg:Bool):R2:=λx y H Q=>∃Hi d ds c,(c=.L ds\/c=.U ds)/\af Hi H/\Rep K Hi d x/\Rep K Hi c y/\bL d=bd/\bL c=bd/\Q (.bl (if neg then !inD d ds else inD d ds)) H
def pQ(K:e6)(neg:Bool):R2:=λx y H Q=>Be K neg x y H Q\/(λx y H Q=>∃i j,x=.str i/\y=.str j/\Q (.bl (if neg then !(!(lq j i 0 j.length 1).isEmpty)else !(lq j i 0 j.length 1).isEmpty)) H) x y H Q
def UY(d:X.A.units+65<r0):aV X (j' .In) (pQ X.K false):=aV.or ((λg=>by
  ext pins s σ H x y v u Q I rx l h;let(Hi,d,ds,c,m,sm,n,o,e,f,q):=h;let e:=hG.1 e;let f:=hG.1 f;let(as,j):=jd I sm e.1 n rx;let(bs,k):=jd I sm f.1 o l;let rfl||rfl:=m
  .$(SeqAt.in_list_reads k j (k5 f.2) (k5 e.2) (aaL e.2 g) {.bl<|inD d ds,H,I,ρ,q})
  $(SeqAt.in_tuple_reads k j (k5 f.2) (k5 e.2) (aaL e.2 g) {.bl<|inD d ds,H,I,ρ,q})) d) Lr
theorem Ju(d:X.A.units+65<r0):aV X (j' .NotIn) (pQ X.K true):=aV.or ((λg=>by
  ext pins s σ H x y v u Q I rx l h;let(Hi,d,ds,c,m,sm,n,o,e,f,q):=h;let e:=hG.1 e;let f:=hG.1 f;let(as,j):=jd I sm e.1 n rx;let(bs,k):=jd I sm f.1 o l;let rfl||rfl:=m
  .$(SeqAt.notIn_list_reads k j (k5 f.2) (k5 e.2) (aaL e.2 g) {.bl<|!inD d ds,H,I,ρ,q})
  $(SeqAt.notIn_tuple_reads k j (k5 f.2) (k5 e.2) (aaL e.2 g) {.bl<|!inD d ds,H,I,ρ,q})) d) T3
def VL:ff X (pQ X.K neg) (xk neg):=by
 ext H0 ps Z σ H Hi x y d d' o Q e S rx g k;delta xk at e;$$$$$e
 .$$$$$e
  .ext1 f;let f:=hG.1 f;$$$e;$(ι {Hi,d,_,_,ι ρ,S.sub,rx,g,f.1,f.2,k _ H Hi S (af.refl _) ρ})
  $(nO e)
 .$$$$$e
  .ext1 f;let f:=hG.1 f;$$$e;$(ι {Hi,d,_,_,τ ρ,S.sub,rx,g,f.1,f.2,k _ H Hi S (af.refl _) ρ})
  $(nO e)
 .$$$$$$e;$$rx;$$g;$(τ {_,_,ρ,ρ,k _ H Hi S (af.refl _) ρ})
 $(nO e)
def kindAt(io:Bool)(c:Dat):Slot:=if io then .io c else .O c
def ownOf:Slot->Option (Bool×Dat)
 |.O c=>ac (false,c)
 |.io c=>ac (true,c)
 |_=>al
def tI{s:Slot}{b:Bool}{c:Dat}(h:ownOf s=ac (b,c)):s=kindAt b c:=by
 $$$s<;>$$$h<;>rfl
theorem SR.at(S:SR K H0 ps Z σ H Hi)(e:Z[i]?=ac (kindAt io c)):∃p,σ[i]?=ac (ac<|.ref p)/\cC K H Hi p c:=by
 cases io with
 |false=>let(p,a,b,_):=S.O i c e;$(⟨p,a,b⟩)
 |true=>let(p,a,b,_):=S.io i c e;$(⟨p,a,b⟩)
theorem SR.write (S:SR K H0 ps Z σ H Hi)(e:Z[i]?=ac (kindAt io c))(ep:σ[i]?=ac (ac<|.ref p))(t:cC K (upd H p o) Hi p c'):SR K H0 ps (Z.set i<|kindAt io c') σ (upd H p o) Hi:=by
 let x:=(bg.1 e).1;let y:Z[i]?=ac (.O c)\/Z[i]?=ac (.io c):=by
  cases io with
  |false=>$(ι e)
  |true=>$(τ e)
 let A:¬fY ps p->H0.1 p=al:=λnl=>by
  cases io with
  |false=>let(q,a,b,g,r):=S.O i c e;rw[ep]at a;$$$a;$r
  |true=>let(q,a,b,g):=S.io i c e;rw[ep]at a;$$$a;$(absurd ⟨i,g⟩ nl)
 let other:∀{j:Nat}{s:Slot},j≠i->(Z.set i<|kindAt io c')[j]?=ac s->Z[j]?=ac s:=λ{j s} f h=>by rw[g0 (Ne.symm f)]at h;$h
 let adA:∀{s:Slot},(Z.set i<|kindAt io c')[i]?=ac s->s=kindAt io c':=λ{s} h=>by rw[hY x]at h;$((Option.some.inj h).symm)
 let ne:∀{j:Nat}{d:Dat}{q:cA},j≠i->(Z[j]?=ac (.O d)\/Z[j]?=ac (.io d))->σ[j]?=ac (ac<|.ref q)->q≠p:=λ{j d q} f h a z=>by$$z;$(f<|S.ne j i d c q h y a ep)
 $({tZ S.sub t.some.2,λb u v n=>?_,λq l=>?_,λj d h=>?_,λj d h=>?_,λj d h=>?_,λj k d d' q B C D E=>?_,by rw[kx];$S.len,S.nw})
 .let F:b≠p:=λz=>by$$z;rw[A n]at v;$(nO v)
  rw[aA F];$(S.keep b u v n)
 .ext(m:q=p)
  .$$m;rw[bw];simp
  rw[aA m];$(S.eF q l)
 .let f:j≠i:=λz=>by$$z;let:=adA h;$$$io<;>lk
  $(S.D j d<|other f h)
 .ext(f:j=i)
  .$$f;let:=adA h;cases io with
   |false =>
    $$$this;let(q,a,b,g,r):=S.O j c e;rw[ep]at a;$$$a;$(⟨p,ep,t,g,r⟩)
   |true=>$$$this
  let(q,a,b,g,r):=S.O j d<|other f h;let m:=ne f (ι<|other f h) a;$({q,a,b.keeps (aA m) (af.refl _) b.some.2,g,r})
 .ext(f:j=i)
  .$$f;let:=adA h;cases io with
   |true =>
    $$$this;let(q,a,b,g):=S.io j c e;rw[ep]at a;$$$a;$(⟨p,ep,t,g⟩)
   |false=>lk
  let(q,a,b,g):=S.io j d<|other f h;let m:=ne f (τ<|other f h) a;$({q,a,b.keeps (aA m) (af.refl _) b.some.2,g})
 let back:∀{j:Nat}{d:Dat},((Z.set i<|kindAt io c')[j]?=ac (.O d)\/(Z.set i<|kindAt io c')[j]?=ac (.io d))->∃d',Z[j]?=ac (.O d')\/Z[j]?=ac (.io d'):=λ{j d} h=>by
  ext(f:j=i)
  .$$f;$(⟨c,y⟩)
  $({d,h.imp (other f)<|other f})
 let(G,I):=back B;let(J,L):=back C;$(S.ne j k G J q I L D E)
def MD(K:e6)(T:String)(r:V->List V->Hp->VK->Prop)(e:Dat->List Dat->Option (Dat×Dat)):Prop:=∀(H Hi:Hp) (p:cA) (c:Dat) (ds:List Dat) (vs:List V) (d c':Dat) (Q:VK),e c ds=ac (d,c')->af Hi H->cC K H Hi p c->aw K Hi ds vs ->
 (∀v o,cC K (upd H p o) Hi p c'->Rep K Hi d v->Q v (upd H p o))->r (.ref p) vs H Q
def SI:Dat->Bool
 |.L _=>true
 |_=>false
def iM(i:Nat)(d:Dat->List Dat->Option (Dat×Dat))(fa:AF):DF:=λZ=>((Z[i]?).bind ownOf).bind λs=>if SI s.2=bd then(fa Z).bind λp=>((p.2[i]?).bind ownOf).bind λt=>(d t.2 p.1).map λq=>(q.1,p.2.set i<|kindAt t.1 q.2)else al
theorem Nr (h:iM i j fa Z=ac (d,k)) :
  ∃io c ds Z1 e f c',Z[i]?=ac (kindAt io<|.L c)/\fa Z=ac (ds,Z1)/\Z1[i]?=ac (kindAt e f)/\j f ds=ac (d,c')/\k=Z1.set i (kindAt e c'):=by
 delta iM at h;cases l:Z[i]? with
 |none=>rw[l]at h;$(nO h)
 |some s =>
  rw[l]at h;let(io,c,n,h):=oB h;dsimp at h;$$$$$h
  .cases m:fa Z with
   |none=>rw[m]at h;$(nO h)
   |some p =>
    let(ds,Z1):=p;rw[m]at h;simp at h;cases g:Z1[i]? with
    |none=>rw[g]at h;$(nO h)
    |some s1 =>
     rw[g]at h;let(e,f,o,h):=oB h;let(d',c',q,h):=oN h;dsimp at h;let(rfl,rfl):=sP h;cases c with
     |L c=>$({io,c,ds,Z1,e,f,c',by rw[tI n],rfl,by rw[g,tI o],q,rfl})
     |_=>lk
  $(nO h)
def DQ (i:Nat)(hN:X.N[i]?=ac x)(hv:cw X.env.scope x)(A:∀{t:TA},PA X (e::f) t->PE X (.Call (.Attribute (.Name x l) m apos) (e::f) [] pos) (rh X.K "list" r (lV i) t))(B:MD X.K "list" r n)(C:DA X (e::f) fa):DD X (.Call (.Attribute (.Name x l) m apos) (e::f) [] pos) (iM i n fa):=by let(t,p,q):=C;$({_,A p,λH0 ps Z σ H Hi d Z' Q D S k=>?_});let(io,c,ds,Z1,io',E,c',F,G,u,I,rfl):=Nr D;let(a,h,J):=S.at F;let(y,L,_,_):=J;$({.ref a,h,ι {ρ,y,bV.of L},?_});$(q H0 ps Z σ H Hi ds Z1 _ G S λvs M g j O R=>?_);let(b,z,T):=j.at u;rw[h]at z;$$$z;$(B M g a E ds vs d c' Q I j.sub T R λv o o1 U=>k v _ g (j.write u h o1) O U)
def pV:Dat->List Dat->Option (Dat×Dat)
 |.L xs,[d]=>if xs.length<a9 then ac (.aP,.L<|xs++[d])else al
 |_,_=>al
def QO (i:Nat)(k:X.N[i]?=ac x)(l:cw X.env.scope x)(n:DA X [e] fa)(hd:bM x:=by decide)(m:cT x:=by decide)(f:z3 (.Name x d) "append" X.env (eval (.Name x d) X.env)=eval (.Name x d) X.env:=by rfl)(j:my X pos e:=by rfl)(g:(apos.endLine==pos.line)=bd:=by rfl)(o:bI X e []:=by rfl):DD X (.Call (.Attribute (.Name x d) "append" apos) [e] [] pos) (iM i pV fa) :=
 DQ i k l (λh=>mD ql adG PySem.F.type_list_append EL (eX k l hd m) h f j g o ρ) (by
   ext H Hi p c ds vs d c' Q e sm g r k;delta pV at e;$$$$$e
   .$$$$$e
    .ext1 h;let(rfl,rfl):=sP e;let(j,l,f,m):=g;let(v,vr,rfl,n,o):=r;$$o;$({p,j,v,ρ,ρ,l,by rw[f.length];$h,k .aP _ {_,bw,aw.append f {v,[],ρ,n,ρ},m} ρ})
    $(nO e)
   $(nO e)) n
end
def CD(X:Cx)(r:List V->Hp->VK->Prop)(f:List Dat->Option Res):Prop:=∀(b:Hp×Hp) (ps:Nat->Option cA) (Z:DS) (c:St) (H d:Hp) (vs:List V) (ds:List Dat) (o:Res) (Q:VK),f ds=ac o->SR X.K b ps Z c H d->aw X.K d ds vs ->
 (∀v e a,SR X.K b ps Z c e a->af d a->RR X.K b ps Z c e a v o->Q v e)->r vs H Q
section
variable{X:Cx}{pos p:q7}{x:ew}{id T:String}{r:List V->Hp->VK->Prop}{fo:List Dat->Option Res}{e:fA}{es:List fA}{fa:AF}{K:e6}{H0:Hp×Hp}{ps:Nat->Option cA}{Z:DS}{σ:St}{H Hi:Hp}{i:Nat}{d:Dat}{v:V}{a b:fA}{P:hE}{w:iR}{mg:ew->Option bt}{base:k7}{f g:DF}{p2:q7}
def Gk (s:CD X r fo)(q:∀(H0:Hp×Hp) (ps:Nat->Option cA) (Z:DS) (σ:St) (H Hi:Hp) (ds:List Dat) (h:DS) (Q:List V->Hp->Prop),fa Z=ac (ds,h)->SR X.K H0 ps Z σ H Hi->(∀vs j c,SR X.K H0 ps h σ j c->af Hi c->aw X.K c ds vs->Q vs j)->t σ H Q)(H0:Hp×Hp)(ps:Nat->Option cA)(Z:DS)(σ:St)(H Hi:Hp)(o:Res)(h:DS)(Q:VK)(l:cE fo fa Z=ac (o,h))(S:SR X.K H0 ps Z σ H Hi)(k:∀v j c,SR X.K H0 ps h σ j c->af Hi c->RR X.K H0 ps h σ j c v o->Q v j):zl r t σ H Q:=by let(ds,Z1,u,l):=oB l;let(r2,y,l):=oM l;let(rfl,rfl):=sP l;$(q H0 ps Z σ H Hi ds _ _ u S λvs z m A B C=>?_);$(s H0 ps _ σ z m vs ds _ Q y A C λv D n E F G=>k v D n E (B.trans F) G)
def iE(j:bP X (.builtin id) r)(k:CD X r fo)(l:Gl X x)(m:X.mg x=al)(n:C' x=ac (.builtin id))(o:DA X (e::es) fa)(s:x≠"__name__":=by decide)(c:bM x:=by decide)
 (u:bI X e es:=by rfl)(h:(YP pos<|ma es X.env).any (·.1)=bi:=by rfl):DE X (.Call (.Name x p) (e::es) [] pos) (cE fo fa):=by
 let(t,y,q):=o;$({_,vJ j l m n y s c u h,Gk k q})
def pO(j:bP X (.type T) r)(k:CD X r fo)(l:Gl X x)(m:X.mg x=al)(n:C' x=ac (.type T))(o:DA X (e::es) fa)(s:x≠"__name__":=by decide)(c:bM x:=by decide)
 (u:bI X e es:=by rfl)(h:(YP pos<|ma es X.env).any (·.1)=bi:=by rfl):DE X (.Call (.Name x p) (e::es) [] pos) (cE fo fa):=by
 let(t,y,q):=o;$({_,zh j l m n y s c u h,Gk k q})
def qO:List Dat->Option Res
 |[.int i]=>ac (.D<|.int i)
 |[.bl b]=>ac (.D<|.int (if b then 1 else 0))
 |_=>al
def KW:CD X (λxs H Q=>(∃i,xs=[.int i]/\Q (.int i) H)\/∃k,xs=[.bl k]/\Q (.int (if k then 1 else 0)) H) qO:=by
 ext H0 ps Z σ H Hi vs ds o Q e S r k;delta qO at e;$$$$$e
 .$$$e;let(v,j,rfl,c,h):=r;$$$c;$$h;$(ι {_,ρ,k _ H Hi S (af.refl _) ρ})
 .$$$e;let(v,j,rfl,c,h):=r;$$c;$$h;$(τ {_,ρ,k _ H Hi S (af.refl _) ρ})
 $(nO e)
def xj:List Dat->Option Res
 |[.int i,.int j]=>ac (.D<|.int (if j<i then j else i))
 |_=>al
def As:List Dat->Option Res
 |[.int i,.int j]=>ac (.D<|.int (if j>i then j else i))
 |_=>al
def PR:CD X (λxs H Q=>∃i j,xs=[.int i,.int j]/\Q (.int (if j<i then j else i)) H) xj:=by
 ext H0 ps Z σ H Hi vs ds o Q e S r k;delta xj at e;$$$$$e
 .$$$$$$e;let(v,vr,rfl,h,w,wr,rfl,c,l):=r;$$h;$$c;$$l;$({_,_,ρ,k _ H Hi S (af.refl _) ρ})
 $(nO e)
def P7:CD X (λxs H Q=>∃i j,xs=[.int i,.int j]/\Q (.int (if j>i then j else i)) H) As:=by
 ext H0 ps Z σ H Hi vs ds o Q e S r k;delta As at e;$$$$$e
 .$$$$$$e;let(v,vr,rfl,h,w,wr,rfl,c,l):=r;$$h;$$c;$$l;$({_,_,ρ,k _ H Hi S (af.refl _) ρ})
 $(nO e)
def du:Dat->Option Nat
 |.L ds=>ac ds.length
 |.U ds=>ac ds.length
 |.cg c=>ac c.length
 |.eQ c=>ac c.length
 |.str x=>if x.length<=a9 then ac x.length else al
 |_=>al
def pM:List Dat->Option Res
 |[d]=>(du d).map λn:Nat=>.D (.int (n:Int))
 |_=>al
def yA(K:e6):List V->Hp->VK->Prop:=λxs H Q=>(∃p ys,xs=[.ref p]/\(bV K H p ys\/bj K H p ys)/\Q (.int ys.length) H)\/(λxs H Q=>(λxs H Q=>(∃z,xs=[.str z]/\z.length<=a9/\Q (.int z.length) H)) xs H Q\/(λxs H Q=>∃a kvs,xs=[.ref a]/\Rd H a (.dK kvs)/\Q (.int kvs.length) H) xs H Q) xs H Q
def zZ:bP X (.builtin "len") (yA X.K):=bP.or Uq<|bP.or VZ (by ext pins s σ H xs us Q I r h;let(a,kvs,rfl,c,q):=h;let(u,rfl,j):=vals1 r;$$j;$(KS I c λt s' k=>⟨.int kvs.length,H,k,⟨t,ρ⟩,q⟩))
theorem Gx:CD X (yA X.K) pM:=by
 ext H0 ps Z σ H Hi vs ds o Q e S r k;delta pM at e;$$$$$e
 .ext1 d;let(v,vr,rfl,h,j):=r;$$j;cases d with
  |L ds =>
   $$$e;let(p,c,rfl,q,rs):=h;$(ι {p,c,ρ,ι<|ι<|Rd.mono S.sub q,k _ H Hi S (af.refl _) ?_});show V.int _=V.int _;rw[rs.length]
  |U ds =>
   $$$e;let(p,c,rfl,q,rs):=h;$(ι {p,c,ρ,τ<|bj.mono S.sub q,k _ H Hi S (af.refl _) ?_});show V.int _=V.int _;rw[rs.length]
  |str x =>
   $$h;let e:(if x.length<=a9 then ac x.length else al).map (λn:Nat=>Res.D<|.int n)=ac o:=e;$$$$$e
   .ext1 l;$$$$$$e;$(τ<|ι ⟨x,ρ,l,k _ H Hi S (af.refl _) ρ⟩)
   $(nO e)
  |cg m =>
   $$$e;let(p,c,rfl,q,rs):=h;$(τ<|τ ⟨p,c,ρ,Rd.of<|S.sub _ _ q,k _ H Hi S (af.refl _) ?_⟩);show V.int _=V.int _;rw[bN.length rs]
  |eQ m =>
   $$$e;let(p,s,c,rfl,q,rs):=h;$(τ<|τ ⟨p,c,ρ,τ ⟨s,S.sub _ _ q⟩,k _ H Hi S (af.refl _) ?_⟩);show V.int _=V.int _;rw[bN.length rs]
  |_=>$(nO e)
 $(nO e)
def rH:Dat->Dat->Option Dat
 |.L ds,.int i=>eE ds i
 |.U ds,.int i=>eE ds i
 |.str x,.int i=>if x.length<=a9 then(eE x.cps.toList i).map λc=>.str ⟨#[c]⟩else al
 |_,_=>al
def jK:Slot->Option Dat
 |.D d=>ac d
 |.O d=>ac d
 |.io d=>ac d
 |.no=>al
def Top(K:e6)(H Hi:Hp)(v:V):Dat->Prop
 |.L ds=>∃p vs,v=.ref p/\Rd H p (.L vs)/\aw K Hi ds vs
 |.U ds=>∃p vs,v=.ref p/\bj K H p vs/\aw K Hi ds vs
 |.cg c=>∃p kvs,v=.ref p/\H p=ac (.dK kvs)/\bN K Hi c kvs
 |.bA fz c=>∃p o kvs,v=.ref p/\H p=ac (if fz then .aZ o (.dT kvs)else .dT kvs)/\bW K Hi c kvs
 |d=>Rep K Hi d v
theorem Rep.top(r:Rep K Hi d v)(s:af Hi H):Top K H Hi v d:=by
 cases d with
 |L ds=>let(p,vs,a,b,c):=r;$({p,vs,a,Rd.mono s b,c})
 |U ds=>let(p,vs,a,b,c):=r;$({p,vs,a,bj.mono s b,c})
 |cg ds=>let(p,vs,a,b,c):=r;$({p,vs,a,s _ _ b,c})
 |bA fz ds=>let(p,o,vs,a,b,c):=r;$({p,o,vs,a,s _ _ b,c})
 |_=>$r
theorem cC.top{p:cA}(h:cC K H Hi p d):Top K H Hi (.ref p) d:=by
 cases d with
 |L ds=>let(vs,a,b,_):=h;$({p,vs,ρ,Rd.of a,b})
 |cg c=>let(vs,a,b,_):=h;$(⟨p,vs,ρ,a,b⟩)
 |bA fz c=>let(rfl,vs,a,b,_):=h;$({p,{cls:=.none,data:=.fields #[]},vs,ρ,a,b})
 |_=>$h.elim
theorem SR.peek(S:SR K H0 ps Z σ H Hi)(e:(Z[i]?).bind jK=ac d):∃v,σ[i]?=ac (ac v)/\Top K H Hi v d:=by
 let(s,c,e):=oA e;cases s with
 |no=>$(nO e)
 |D d'=>$$$e;let(v,a,b):=S.D i d c;$({v,a,b.top S.sub})
 |O d'=>$$$e;let(p,a,b,_):=S.O i d c;$({_,a,b.top})
 |io d'=>$$$e;let(p,a,b,_):=S.io i d c;$({_,a,b.top})
theorem BW (r:aw K Hi ds vs)(e:eE ds k=ac d):∃v,eE vs k=ac v/\Rep K Hi d v:=by
 delta eE at e ⊢;rw[r.length];cases q:iT ds.length k with
 |none=>rw[q]at e;$(nO e)
 |some j=>rw[q]at e;$(r.get e)
def C4{x y:V}{a b:Dat}{Q:VK}(t:Top K H Hi x a)(j:Rep K Hi b y)(e:rH a b=ac d)(k:∀v,Rep K Hi d v->Q v H):EM K x y H Q:=by
 delta rH at e;$$$$$e
 .let(p,vs,rfl,rd,rs):=t;$$$j;let(v,h,l):=BW rs e;$(ι {p,vs,_,v,ρ,ρ,ι rd,h,k v l})
 .let(p,vs,rfl,rd,rs):=t;$$$j;let(v,h,l):=BW rs e;$(τ<|ι ⟨p,vs,_,v,ρ,ρ,rd,h,k v l⟩)
 .$$$$$e
  .ext1 m;$$t;$$j;let(c,h,e):=oM e;$$$$$$e;$(τ<|τ ⟨_,_,c,ρ,ρ,m,h,k _ ρ⟩)
  $(nO e)
 $(nO e)
def qq(i:Nat):DF:=λZ=>((Z[i]?).bind jK).bind λc=>(du c).map λn:Nat=>(.int (n:Int),Z)
theorem Qh (i:Nat)(s:X.N[i]?=ac x)(u:cw X.env.scope x)(y:Gl X "len")(A:X.mg "len"=al)(hd:bM x:=by decide)(l:cT x:=by decide) :
  DD X (.Call (.Name "len" q) [.Name x o] [] pos) (qq i):=by
 $({_,vJ zZ y A abL<|kI (eX s u hd l) pS ρ,λH0 ps Z σ H Hi d Z' Q e S k=>?_});let(c,B,e):=oA e;cases h:du c with
 |none=>rw[h]at e;$(nO e)
 |some n =>
  rw[h]at e;let(rfl,rfl):=sP e;let(v,a,t):=S.peek B;$({v,a,?_});let j:∀m:Nat,m=n->Q (.int (m:Int)) H:=λm em=>k _ H Hi S (af.refl _) (by rw[em];rfl);cases c with
  |L ds=>let(p,vs,rfl,rd,rs):=t;$$$h;$(ι {p,vs,ρ,ι<|ι rd,j _ rs.length})
  |U ds=>let(p,vs,rfl,rd,rs):=t;$$$h;$(ι {p,vs,ρ,τ rd,j _ rs.length})
  |cg C=>let(p,vs,rfl,rd,rs):=t;$$$h;$(τ (τ {p,vs,ρ,Rd.of rd,j _<|bN.length rs}))
  |eQ C=>let(p,D,vs,rfl,rd,rs):=t;$$$$$$h;$(τ (τ {p,vs,ρ,τ {D,S.sub _ _ rd},j _<|bN.length rs}))
  |str z =>
   $$t;let h:(if z.length<=a9 then ac z.length else al)=ac n:=h;$$$$$h
   .ext1 E;$$$$$$h;$(τ<|ι ⟨z,ρ,E,j _ ρ⟩)
   $(nO h)
  |_=>$(nO h)
def rf(i:Nat)(c f:DF):SF:=λZ=>(f Z).bind λp=>((p.2[i]?).bind ownOf).bind λ_=>(c p.2).bind λq=>match q.1 with
 | .int k=>((q.2[i]?).bind ownOf).bind λs=>(match s.2 with
  |.L xs=>(iT xs.length k).map λj=>.next (q.2.set i<|kindAt s.1<|.L<|xs.set j p.1)
  |_=>al)
 |_=>al
theorem Jk (i:Nat)(W:X.N[i]?=ac x)(Y:cw X.env.scope x)(h:DD X e f)(hk:DD X l G)(hd:bM x:=by decide)(I:cT x:=by decide)(ha:∀v,aay (.Subscript (.Name x m) l pt) X.env v=(do
   let u <-aap [v] (eval (.Name x m) X.env);let B <-aap [v,u] (eval l X.env)
   ads pt
   aap [v,u,B] (aef u B v)
   release [v,u,B] []):=by ext _;rfl)(hs:abu [.Subscript (.Name x m) l pt] e pos.line X.env=pure false:=by rfl)(hw:abv [.Subscript (.Name x m) l pt] e X.env=pure al:=by rfl)(C:(pl [.Subscript (.Name x m) l pt] X.env).map (·.2)=[aay (.Subscript (.Name x m) l pt) X.env]:=by rfl):cH X (.Assign [.Subscript (.Name x m) l pt] e pos) (rf i G f):=by
 let(t,p,q):=h;let(tk,pk,qk):=hk;$({_,D3 p (Jn (eX W Y hd I) pk set_list ha) hs hw C,λH0 ps Z σ H Hi o D e S k=>?_});let(d,Z1,e1,e):=oB e;let(s0,e2,e):=oA e;let(n,Z2,e3,e):=oB e;dsimp at e;$$$$$e
 .ext1 kk;let(io,c,J,e):=oB e;dsimp at e;cases c with
  |L xs =>
   let(j,e5,e):=oM e;$$$$$$e;let E:∀{A:DS}{b:Bool}{c:Dat},(A[i]?).bind ownOf=ac (b,c)->A[i]?=ac (kindAt b c):=λ{A b c} h=>by
    cases z:A[i]? with
    |none=>rw[z]at h;$(nO h)
    |some s=>rw[z]at h;rw[tI h]
   $(q H0 ps Z σ H Hi d Z1 _ e1 S λv H1 L M s1 r1=>?_);let(a,F,_):=M.at<|E e2;$({.ref a,F,qk H0 ps Z1 σ H1 L _ Z2 _ e3 M λy H2 O Q R r2=>?_});$$r2;let(b,U,ob):=Q.at<|E J;rw[F]at U;$$$U;let(vs,C,V,h3):=ob;$({a,vs,kk,j,ρ,ρ,C,by rw[V.length];$e5,?_});$(k σ _ O (Q.write (E J) F {_,bw,aw.set j V<|Rep.mono R r1,h3}) (s1.trans R))
  |_=>$(nO e)
 $(nO e)
def S8(X:Cx)(j:Nat)(i:Nat)(f:AF)(t:TA):Prop:=∀(H0:Hp×Hp) (ps:Nat->Option cA) (Z:DS) (σ:St) (H Hi:Hp) (ds:List Dat) (h:DS) (w:V) (Q:List V->Hp->Prop),f Z=ac (ds,h)->SR X.K H0 ps Z σ H Hi->σ[i]?=ac (ac w) ->
 (∀vs k c,SR X.K H0 ps h σ k c->af Hi c->vs[j]?=ac w->aw X.K c ds (vs.eraseIdx j)->Q vs k)->t σ H Q
inductive lu (X:Cx) (es:List fA) (j i:Nat) (f:AF):Prop
 |mk (t:TA) (p:PA X es t) (q:S8 X j i f t)
def U3{x:ew}{c:q7}{es:List fA}{g:AF}(i:Nat)(m:X.N[i]?=ac x)(n:cw X.env.scope x)(h:DA X es g)(o:ma (.Name x c::es) X.env=(false,eval (.Name x c) X.env)::ma es X.env:=by rfl)
 (hd:bM x:=by decide)(j:cT x:=by decide):lu X (.Name x c::es) 0 i g:=by
 let(t,p,q):=h;$({_,kI (eX m n hd j) p o,λH0 ps Z σ H Hi ds s w Q e S u k=>{w,u,?_}});$(q H0 ps Z σ H Hi ds s _ e S λvs y l z s' r=>k (w::vs) y l z s' ρ r)
theorem SS{e:fA}{es:List fA}{f:DF}{g:AF}{j i:Nat}(n:DD X e f)(o:lu X es j i g)(q:bI X e es:=by rfl):lu X (e::es) (j+1) i (dm f g):=by let(t1,s,t):=n;let(t2,p2,u):=o;$({_,kI s p2 q,λH0 ps Z σ H Hi ds Z' w Q e S y k=>?_});unfold dm at e;let(d,Z1,z,e):=oB e;dsimp at e;let(c,Z2,A,e):=oN e;let(rfl,rfl):=sP e;$(t H0 ps Z σ H Hi d Z1 _ z S λv B h C D E=>?_);$(u H0 ps Z1 σ B h c _ w _ A C y λvs F l G m I J=>k (v::vs) F l G (D.trans m) (by$$$$I) {v,vs.eraseIdx j,ρ,Rep.mono m E,J})
theorem SR.BR{K:e6}{H0:Hp×Hp}{ps:Nat->Option cA}{Z:DS}{σ:St}{H Hi l k:Hp}{v:V}{r:Res}{i:Nat}{io:Bool}{c t:Dat}{p:cA}(S:SR K H0 ps Z σ H Hi)(e:Z[i]?=ac (kindAt io c))(ep:σ[i]?=ac (ac<|.ref p))
 (s:∀b o,H b=ac o->b≠p->l b=ac o)(Q:af Hi k)(R:af k l)(nw:∀p o,k p=ac o->jO Hi H p o)(E:cC K l k p t)(u:RC K H l k v r) :
  SR K H0 ps (Z.set i<|kindAt io t) σ l k/\RR K H0 ps (Z.set i<|kindAt io t) σ l k v r:=by
 let(q,eq,U):=S.at e;rw[ep]at eq;$$$eq;let((n,B),hn):=U.some;let((A,F),G):=E.some;let Y:af H (upd l p n):=λb o C=>by
  ext(z:b=p)
  .$$z;rw[bw];rw[B]at C;$C
  rw[aA z];$(s b o C z)
 let I:af k (upd l p n):=tZ R G;let J:RC K H (upd l p n) k v r:=by
  cases r with
  |D d=>$u
  |O c0 =>
   let(p0,D,y,m):=u;let L:p0≠p:=λz=>by$$z;rw[B]at m;lk
   $({p0,D,y.keeps (aA L) (af.refl _) y.some.2,m})
 let(S1,rr):=S.after Y Q I nw J;let M:upd (upd l p n) p A=l:=by
  rw[Qe];funext b;ext(z:b=p)
  .$$z;rw[bw,F]
  rw[aA z]
 let N:=S1.write e ep (by rw[M];$E);simp[M]at N;$({N,?_});cases r with
 |D d=>$u
 |O c0 =>
  let(p0,D,y,m):=u;$({p0,D,y,(S.bU m).2,(S.bU m).1,λj d h z=>?_});ext(O:j=i)
  .$$O;rw[ep]at z;$$$z;rw[B]at m;lk
  rw[g0 (Ne.symm O)]at h;$(S.eM m j d h z)
def pW(fn:dB)(i:Nat)(fa:AF):EF:=λZ=>((Z[i]?).bind ownOf).bind λ_=>(fa Z).bind λp=>((p.2[i]?).bind ownOf).bind λs=>(fn s.2 p.1).map λq=>(q.1,p.2.set i<|kindAt s.1 q.2)
theorem ky{Z:DS}{i:Nat}{b:Bool}{c:Dat}(h:(Z[i]?).bind ownOf=ac (b,c)):Z[i]?=ac (kindAt b c):=by
 cases z:Z[i]? with
 |none=>rw[z]at h;$(nO h)
 |some s=>rw[z]at h;rw[tI h]
def Vq (h:A6 X x (dr X.K j fn))(C:lu X (e::es) j i fa)(o:bM x:=by decide)(D:bI X e es:=by rfl)(s:(YP pos<|ma es X.env).any (·.1)=bi:=by rfl):DE X (.Call (.Name x p) (e::es) [] pos) (pW fn i fa):=by let(E,CX,k,f,fd,pn,F,G,I,J,L,hx):=h;let(t,M,q):=C;$({_,Ht F G E I J L .nil hx M o D s,λH0 ps Z σ H Hi r Z' Q l S k=>?_});let(b0,c0,N,l):=oB l;let(ds,Z1,O,l):=oB l;let(io,c,u,l):=oB l;let(r',R,U,l):=oN l;dsimp at l;let(rfl,rfl):=sP l;let(a,m,_):=S.at<|ky N;$(q H0 ps Z σ H Hi ds Z1 _ _ O S m λvs H1 y n V W Y=>?_);let(b,z,ob):=n.at<|ky u;rw[m]at z;$$$z;$({y,a,c,ds,_,R,n.sub,by rw[z6];$W,ob,by rw[z6];$Y,U,λv H2 A a1 B a3 a4 oc rc=>?_});let(S2,rr):=n.BR (ky u) m a1 B a3 a4 oc rc;$(k v H2 A S2 (V.trans B) rr)
def jr(n j:Nat)(c:Dat)(ds:List Dat):DS:=(ds.map Slot.D).take j++.io c::(ds.map Slot.D).drop j++nB (n-ds.length-1) .no
def mj(n j:Nat)(f:SF):dB:=λc ds=>(f<|jr n j c ds).bind λo=>match o with
 |.next Z=>(match Z[j]? with|some (.io h)=>ac (.D .aP,h)|_=>al)
 |.ret r Z=>(match Z[j]? with|some (.io h)=>ac (r,h)|_=>al)
 |_=>al
theorem zm (hj:j<=ds.length)(h:(jr n j c ds)[k]?=ac s) :
  (k<j/\∃d,ds[k]?=ac d/\s=.D d)\/(k=j/\s=.io c)\/(j<k/\∃d,ds[k-1]?=ac d/\s=.D d)\/s=.no:=by
 delta jr at h;let l:((ds.map Slot.D).take j).length=j:=by rw[f',a8];lia
 ext(o:k<j)
 .rw[nE,hH (by simp?[l];$o),adh o,ee]at h;cases e:ds[k]? with
  |none=>rw[e]at h;$(nO h)
  |some d=>simp!
 rw[nE,hO (by rw[l];lia),l]at h;ext(q:k=j)
 .$$q;rw[afJ]at h;$$$$$$h;$(τ<|ι ⟨ρ,ρ⟩)
 let t:j<k:=by lia
 obtain⟨m,u⟩:∃m,k-j=m+1:={k-j-1,by lia};simp[u]at h;ext(y:m<((ds.map Slot.D).drop j).length)
 .rw[hH y,ab6,ee]at h;let z:j+m=k-1:=by lia
  rw[z]at h;cases e:ds[k-1]? with
  |none=>rw[e]at h;$(nO h)
  |some d=>rw[e]at h;$$$$$$h;$(τ<|τ<|ι ⟨t,d,ρ,ρ⟩)
 rw[hO (by lia),aar]at h;simp!
theorem Of{K:e6}{N:List ew}{vs:List V}{ds:List Dat}{H Hi:Hp}{j:Nat}{p:cA}{c:Dat}(s:af Hi H)(hl:vs.length<=N.length)(A:vs[j]?=ac (.ref p))(B:cC K H Hi p c)(r:aw K Hi ds (vs.eraseIdx j)) :
  SR K (H,Hi) (λk=>if k=j then ac p else al) (jr N.length j c ds) (start N vs) H Hi:=by
 let D:=(bg.1 A).1;let hd:=r.length;rw[ac4 D]at hd;let n:j<=ds.length:=⋯;let st:∀{k:Nat}{v:V},vs[k]?=ac v->(start N vs)[k]?=ac (ac v):=λ{k v} e=>by$$(start);rw[hH (by$$$$((bg.1 e).1)),ee,e];rfl
 let m:∀{k:Nat}{d:Dat},(jr N.length j c ds)[k]?≠ac (.O d):=λ{k d} h=>by let(_,_,_,e)||(_,e)||(_,_,_,e)||e:=zm n h<;>lk
 let t:∀{k:Nat}{d:Dat},(jr N.length j c ds)[k]?=ac (.io d)->k=j/\d=c:=λ{k d} h=>by
  let(_,_,_,e)||(a,e)||(_,_,_,e)||e:=zm n h
  .lk
  simp!
  .lk
  lk
 refine{s,λb o e _=>e,λq l=>?_,λk d e=>?_,λk d e=>absurd e m,λk d e=>?_,λk E d d' q F G z1 z2=>?_,?_,λq o e=>ι e}
 .let(k,z):=l;dsimp at z;$$$$$z
  .obtain rfl:=sO z;let((o,e),_):=B.some;rw[e];simp
  exact nO z
 .let (C,d',y,u)||(_,u)||(C,d',y,u)||u:=zm n e
  .cases u;let(v,a,b):=r.get y;rw[List.getElem?_eraseIdx_of_lt C]at a;$({v,st a,b})
  .lk
  .cases u;let(v,a,b):=r.get y;rw[List.getElem?_eraseIdx_of_ge (by lia)]at a;let:k-1+1=k:=by lia
   rw[this]at a;$({v,st a,b})
  lk
 .let(rfl,rfl):=t e;$({p,st A,B,⋯})
 .let I:k=j:=by
   let h||h:=F
   .cases m h
   exact(t h).1
  let J:E=j:=by
   let h||h:=G
   .cases m h
   exact(t h).1
  simp?[I,J]
 grind [jr,start]
theorem BG{x y:ew}{st:zR}{f:cA}{W:gi}{N ps:List ew}{k j:Nat}{fn:dB}{fb:SF}(F:ba K x y st f W)(S:bq N ps (aI st))(M:∀c ds r,fn c ds=ac r->ds.length+1=ps.length)
 (Y:∀(cdv:bt) (A:nL) (outer:List Env) (s:dq) (H:Hp) (E:XK),bS k (A.deeper<|HU y (aI st) s.heap.objs.size f cdv)->cY (jq aT P w K mg base N y (aI st) f cdv A outer s H E).ku (jD st) fb)
 (hf:∀c ds r,fn c ds=ac r->mj N.length j fb c ds=ac r):aS P w K mg base aT (k+1) f W ps (dr K j fn):=by
 let J:∀{vs:List V}{H Hi:Hp}{p:cA}{c:Dat}{ds:List Dat}{r:Res×Dat},vs[j]?=ac (V.ref p)->aw K Hi ds (vs.eraseIdx j)->fn c ds=ac r->vs.length=ps.length:=λ{vs H Hi p c ds r} D rs e=>by let hj:=(bg.1 D).1;let:=rs.length;rw[ac4 hj]at this;let:=M c ds r e;lia
 let hpl:ps.length<=N.length:=by let:=congrArg List.length S.pre;rw[f']at this;lia
 $(F.ok S (λvs H Q E h=>?_)<|λcdv A outer s H vs Q E hr h=>?_)
 .let(Hi,p,c,ds,r,c',sm,D,oc,rs,e,_):=h;$(J (H:=H) D rs e)
 let(Hi,p,c,ds,r,c',sm,D,oc,rs,e,kk):=h;let(t,pp,q):=Y cdv A outer s H E hr;$({t,pp,?_});let l:=hf c ds (r,c') e;unfold mj at l;let hv:=J (H:=H) D rs e;let(o,e1,l):=oA l;let L:∀{Z:DS}{B:St}{u m:Hp}{G:Dat},SR K (H,Hi) (λk=>if k=j then ac p else al) Z B u m->Z[j]?=ac (.io G) ->
   (∀b o,H b=ac o->b≠p->u b=ac o)/\(∀p o,m p=ac o->jO Hi H p o)/\cC K u m p G:=λ{Z B u m G} n I=>by
  $({λb o eb Y=>n.keep b o eb λ⟨k,z⟩=>?_,λp o e=>n.nw p o e,?_});simp!;let(p',a,b,c2):=n.io j G I;simp!
 apply q (H,Hi) _ (jr N.length j c ds) (start N vs) H Hi o _ e1<|Of sm ∅ D oc rs;cases o with
 |next Z =>
  $(λB u m n s'=>?_);simp? at l;$$$$$l
  .ext1 G I;$$$l;let(O,R,U):=L n I;$(kk .aP u m O s' n.sub R U ρ)
  $(nO l)
 |ret r' Z =>
  $(λv B u m n s' rr=>?_);simp? at l;$$$$$l
  .ext1 G I;$$$l;let(O,R,U):=L n I;apply kk v u m O s' n.sub R U;cases r with
   |D d=>$rr
   |O c0=>let(p0,e',o,np,n0,_):=rr;$(⟨p0,e',o,n0⟩)
  $(nO l)
 |brk Z=>$(nO l)
 |cont Z=>$(nO l)
 |exc C Z=>$(nO l)
def d6{N:List ew}{x:ew}{i:Nat}(h:N.findIdx? (·==x)=ac i):N[i]?=ac x:=by let(hi,hx,_):=nk.1 h;simp!
def dX(i j:Int):Bool:=!(am (pe i>abU)&&am (pe j>abU)&&acH (pe i+pe j))
def oC(_ j:Int):Bool:=am (0<j)&&am (j.natAbs.log2<9000)
def tT(i j:Int):Bool:=am (0<=j)&&am (j<=1000000)&&am (i.natAbs<2 ^ 64)
def Mq(c:DD X a f)(h:DD X b g):DE X (.BinOp a .Add b pos) (cK mJ f g):=mE Vs Ji c h
def TV(c:DD X a f)(h:DD X b g):DE X (.BinOp a .Sub b pos) (cK (eI (λ_ _=>true) λi j=>.int<|i-j) f g):=mE (E5 λ_ _ _ _ _ _ _ q=>sub_int q) (nz λ_ _ _ _=>rfl) c h
def Tr(c:DD X a f)(k:DD X b g):DE X (.BinOp a .Mult b pos) (cK (eI dX λi j=>.int<|i*j) f g) :=
 mE (uI λ_ _ _ _ _ _ _ c q=>mul_int q c) (vn (λi j h=>by unfold dX at h;$$(IntMulOk);ext z;rw[z]at h;lk) λ_ _ _ _=>rfl) c k
def PU(c:DD X a f)(k:DD X b g):DE X (.BinOp a .FloorDiv b pos) (cK (eI oC λi j=>.int<|i/j) f g) :=
 mE Ld (vn (λi j h=>by unfold oC at h;rw[ec]at h;$({of_decide_eq_true h.1,of_decide_eq_true h.2})) λ_ _ _ _=>rfl) c k
def Lg(c:DD X a f)(k:DD X b g):DE X (.BinOp a .Mod b pos) (cK (eI (λ_ j=>am<|0<j) λi j=>.int<|i%j) f g) :=
 mE NC (vn (λi j h=>of_decide_eq_true h) λ_ _ _ _=>rfl) c k
def RW(c:DD X a f)(k:DD X b g):DE X (.BinOp a .Pow b pos) (cK (eI tT λi j=>.int<|i ^ j.toNat) f g) :=
 mE M9 (vn (λi j h=>by unfold tT at h;rw[ec,ec]at h;$({of_decide_eq_true h.1.1,of_decide_eq_true h.1.2,of_decide_eq_true h.2})) λ_ _ _ _=>rfl) c k
def Pg(c:X.A.units+64<r0)(h:DD X a f)(j:DD X b g):DT X (.Compare a [.Eq] [b] pos) (e9<|cK (fE false) f g):=lM (Ik c) uR h j<|jV _
def SW(c:X.A.units+64<r0)(h:DD X a f)(j:DD X b g):DT X (.Compare a [.NotEq] [b] pos) (e9<|cK (fE true) f g):=lM (CJ c) uR h j<|jV _
theorem Rh(c:DD X a f)(h:DD X b g):DT X (.Compare a [.Lt] [b] pos) (e9<|cK (eI (λ_ _=>true) λi j=>.bl<|am<|i<j) f g):=lM wJ (nz λ_ _ _ _=>rfl) c h<|jV _
theorem VB(c:DD X a f)(h:DD X b g):DT X (.Compare a [.Gt] [b] pos) (e9<|cK (eI (λ_ _=>true) λi j=>.bl<|am<|j<i) f g):=lM DZ (nz λ_ _ _ _=>rfl) c h<|jV _
theorem Oy(c:DD X a f)(h:DD X b g):DT X (.Compare a [.GtE] [b] pos) (e9<|cK (eI (λ_ _=>true) λi j=>.bl<|am<|j<=i) f g):=lM (wb λ_ _ _ _ _ _ _ q=>ge_int q) (nz λ_ _ _ _=>rfl) c h<|jV _
def Tg (h:X.N.findIdx? (·==x)=ac i)(j:cw X.env.scope x)(hd:bM x)(c:cT x):DD X (.Name x pos) (cS i):=LW i (d6 h) j hd c
def Jo (h:X.N.findIdx? (·==x)=ac i)(j:cw X.env.scope x)(hd:bM x)(c:cT x):DE X (.Name x pos) (yR i):=TM i (d6 h) j hd c
def Bg{x:ew}{e:fA}{f:EF}{c:q7}{i:Nat}(j:X.N.Nodup)(hi:X.N.findIdx? (·==x)=ac i)(hx:Loc X.env.scope x)(k:X.fn x=bd\/X.env.scope.names.lookup x=some .local)
 (l:um e (ac<|.Name x c) pos.line X.env=pure false)(h:DE X e f):cH X (.Assign [.Name x c] e pos) (gK i f):=(λi j hi hx l h m=>by
   let(t,p,q):=h;$({_,Ad j hi hx p m l,λH0 ps Z σ H Hi o D e S k=>?_})
   let(r,Z1,n,e):=oB e;let(Z2,s,e):=oM e;$$$$$$e;$(q H0 ps Z σ H Hi r Z1 _ n S λv u g w s' y=>k _ u g (w.put y s) s')) i j (d6 hi) hx k h l
def PJ (o:X.N.findIdx? (·==x)=ac i)(q:cw X.env.scope x)(hd:bM x)(n:cT x)(s:∀v,aay (.Subscript (.Name x j) c pt) X.env v=(do
   let k <-aap [v] (eval (.Name x j) X.env);let l <-aap [v,k] (eval c X.env)
   ads pt
   aap [v,k,l] (aef k l v)
   release [v,k,l] []))(t:abu [.Subscript (.Name x j) c pt] e pos.line X.env=pure false)(hw:abv [.Subscript (.Name x j) c pt] e X.env=pure al)(u:(pl [.Subscript (.Name x j) c pt] X.env).map (·.2)=[aay (.Subscript (.Name x j) c pt) X.env])(h:DD X e f)(y:DD X c m):cH X (.Assign [.Subscript (.Name x j) c pt] e pos) (rf i m f):=Jk i (d6 o) q h y hd n s t hw u
abbrev OF:=DS->Option (Option Int×DS)
def Qy(X:Cx)(f:OF)(t:TO):Prop:=∀(H0:Hp×Hp) (ps:Nat->Option cA) (Z:DS) (σ:St) (H Hi:Hp) (o:Option Int) (c:DS) (Q:Option Int->Hp->Prop),f Z=ac (o,c)->SR X.K H0 ps Z σ H Hi->Ae X.K H0 ps σ Hi (Q o) c->t σ H Q
inductive DO (X:Cx) (e:Option fA) (f:OF):Prop
 |mk (t:TO) (p:PO X e t) (q:Qy X f t)
def oF:OF:=λZ=>ac (al,Z)
def jN(f:DF):OF:=λZ=>(f Z).bind λp=>match p.1 with
 |.int i=>ac (ac i,p.2)
 |_=>al
def cutD (xs:List c)(lo hi:Option Int):List c:=(xs.drop<|bz xs.length 0 lo).take (bz xs.length xs.length hi-bz xs.length 0 lo)
def fD:Dat->Option Int->Option Int->Option Res
 |.L ds,lo,hi=>ac (.O<|.L<|cutD ds lo hi)
 |.cM ns,lo,hi=>ac (.O<|.L<|(cutD ns lo hi).map Dat.int)
 |.U ds,lo,hi=>if bz ds.length 0 lo=0/\bz ds.length ds.length hi=ds.length then al else ac (.D<|.U<|cutD ds lo hi)
 |_,_,_=>al
def iD(f:DF)(l h:OF):EF:=λZ=>(f Z).bind λp=>(l p.2).bind λq=>(h q.2).bind λr=>(fD p.1 q.1 r.1).map λo=>(o,r.2)
def Pb(ns)(lo hi):jy (ns.map V.int) lo hi=(cutD ns lo hi).map V.int:=by delta jy cutD;rw[a8,z8,zc]
theorem aw.take{K:e6}{H:Hp}:∀{ds:List Dat}{vs:List V}(n:Nat),aw K H ds vs->aw K H (ds.take n) (vs.take n)
 |[],_,n,h=>by simp?[show _=[]from h,afb,afb];$ρ
 |_::_,_,0,c=>by let(v,r,e,q,t):=c;rw[e];$ρ
 |_::_,_,n+1,c=>by let(v,r,e,q,t):=c;$({v,r.take n,by rw[e];rfl,q,aw.take n t})
theorem aw.drop{K:e6}{H:Hp}:∀{ds:List Dat}{vs:List V}(n:Nat),aw K H ds vs->aw K H (ds.drop n) (vs.drop n)
 |[],_,n,h=>by simp?[show _=[]from h,afd,afd];$ρ
 |_::_,_,0,h=>h
 |_::_,_,n+1,c=>by let(v,r,e,q,t):=c;rw[e];$(aw.drop n t)
theorem aw.cut{K:e6}{H:Hp}{ds:List Dat}{vs:List V}(lo hi:Option Int)(r:aw K H ds vs):aw K H (cutD ds lo hi) (jy vs lo hi):=by delta cutD jy;rw[r.length];$(aw.take _<|aw.drop _ r)
def Kw:DO X al oF:={_,Ql,λH0 ps Z σ H Hi o Z' Q e S k=>by let(rfl,rfl):=sP e;$(k H Hi S<|af.refl _)}
def MA (h:DD X e f):DO X (ac e) (jN f):=by
 let(t,p,q):=h;$({_,QG p,λH0 ps Z σ H Hi o Z' Q e S k=>?_});let(d,Z1,j,e):=oB e;dsimp at e;$$$$$e
 .let(rfl,rfl):=sP e;$(q H0 ps Z σ H Hi _ _ _ j S λv l c m s' r=>{_,r,k l c m s'})
 $(nO e)
theorem Cn{f:DF}{l h:OF}{lo hi:Option fA}(G:DD X e f)(I:DO X lo l)(hh:DO X hi h):DE X (.Subscript e (.Slice lo hi al p2) pos) (iD f l h):=by
 let(t,p,q):=G;let(tl,J,L):=I;let(th,M,N):=hh;$({_,HA (kj.or KH R0) p J M,λH0 ps Z σ H Hi o Z' Q j S k=>?_});let(d,Z1,O,j):=oB j;cases A:l Z1 with
 |none=>rw[A]at j;$(nO j)
 |some R =>
  let(a,Z2):=R;rw[A]at j;simp at j;let(b,Z3,U,j):=oB j;dsimp at j;let(o',n,j):=oM j;$$$j;$(q H0 ps Z σ H Hi d Z1 _ O S λv V D W B Y=>?_);$(L H0 ps Z1 σ V D a Z2 _ A W λH2 E S2 s=>?_);$(N H0 ps Z2 σ H2 E b _ _ U S2 λH3 y c u=>?_);let C:=Rep.mono (s.trans u) Y;cases d with
  |L ds =>
   cases sO n;let(p,vs,rfl,rd,rs):=C;$(ι {p,vs,ρ,ι<|Rd.mono c.sub rd,λz m=>?_});$(k (.ref z) _ y (c.made m) ((B.trans s).trans u) {z,ρ,{_,bw,aw.cut a b rs,c.dP m},(c.bU m).2,(c.bU m).1,c.eM m})
  |cM ns=>$$$$$$n;let(p,rfl,rd):=C;$(ι {p,_,ρ,bV.mono c.sub rd,λz m=>?_});$(k (.ref z) _ y (c.made m) ((B.trans s).trans u) {z,ρ,{_,bw,by rw[Pb];$(aw.ints _),c.dP m},(c.bU m).2,(c.bU m).1,c.eM m})
  |U ds =>
   let n:(if bz ds.length 0 a=0/\bz ds.length ds.length b=ds.length then al else ac (Res.D<|.U<|cutD ds a b))=ac o:=n;$$$$$n
   .$(nO n)
   ext1 hn;$$$$$$n;let(p,vs,rfl,rd,rs):=C;$(τ {p,vs,ρ,bj.mono c.sub rd,by rw[rs.length];$hn,λz m=>?_});let(S4,F):=c.laid m;$(k (.ref z) _ _ S4 (((B.trans s).trans u).trans F) {z,_,ρ,bj.of bw,aw.mono F<|aw.cut a b rs})
  |_=>$(nO n)
def sf(k:Nat)(p:cA):Nat->Option Addr:=λm=>if m=k then ac p else al
def A7{k:Nat}{p b:cA}(h:fY (sf k p) b):b=p:=by let(m,z):=h;delta sf at z;simp!
def L'{caps:List (Option Nat)}{Z:DS}{H Hi:Hp}{k j:Nat}{p:cA}{c:Dat}(S:SR K H0 ps Z σ H Hi)(u:caps[k]?=ac (ac j))(ep:σ[j]?=ac (ac<|.ref p))(y:cC K H Hi p c) :
  SR K (H,Hi) (sf k p) ((cD caps Z).set k (.io c)) (fg caps σ) H Hi:=by
 let A:k<(cD caps Z).length:=by delta cD;rw[a8];$((bg.1 u).1)
 let other:∀{m:Nat}{s:Slot},m≠k->((cD caps Z).set k (.io c))[m]?=ac s->(cD caps Z)[m]?=ac s:=λ{m s} n h=>by rwa[g0 (Ne.symm n)]at h
 let adA:∀{s:Slot},((cD caps Z).set k (.io c))[k]?=ac s->s=.io c:=λ{s} h=>by rw[hY A]at h;$((Option.some.inj h).symm)
 let t:∀{m:Nat}{d:Dat},(((cD caps Z).set k (.io c))[m]?=ac (.O d)\/((cD caps Z).set k (.io c))[m]?=ac (.io d))->m=k:=λ{m d} h=>by
  ext(n:m=k)
  .$n
  let h||h:=h
  .$(absurd (other n h) mM.1)
  $(absurd (other n h) mM.2)
 $({S.sub,λb o e _=>e,λq l=>?_,λm d e=>?_,λm d e=>?_,λm d e=>?_,λm m' d d' q B C _ _=>(t B).trans (t C).symm,?_,λq o e=>ι e})
 .rw[A7 l];let((o,e),_):=y.some;rw[e];simp
 .let n:m≠k:=λz=>by$$z;cases adA e
  let(D,E,F):=F8<|other n e;let(v,a,b):=S.D D d F;$({v,xn E a,b})
 .let n:=t<|ι e;$$n;cases adA e
 .let n:=t<|τ e;$$n;cases adA e;$({p,xn u ep,y,by$$(sf);rw[if_pos ρ]})
 simp[cD,fg]
theorem Qw{caps:List (Option Nat)}{kb j:Nat}{U:TI}{fi:IF}{g:GF}{fc:BF}{fe:DF}
 (qi:∀(H0:Hp×Hp) (ps:Nat->Option cA) (Z:DS) (σ:St) (H Hi:Hp) (items:List Dat) (A:DS) (R:It->Hp->Prop),fi Z=ac (items,A)->SR X.K H0 ps Z σ H Hi->(∀J M C,SR X.K H0 ps A σ M C->af Hi C->JW X.K J items C->R J M)->U σ H R)
 (H0:Hp×Hp)(ps:Nat->Option cA)(Z:DS)(σ:St)(H Hi:Hp)(r:Res)(A:DS)(Q:VK)(h:eO caps (ac (kb,j)) fi g fc fe Z=ac (r,A))(S:SR X.K H0 ps Z σ H Hi)
 (k:∀v s u,SR X.K H0 ps A σ s u->af Hi u->RR X.K H0 ps A σ s u v r->Q v s):vt (fg caps) U (lE X.K g) (la X.K fc) (kY X.K fe) σ H Q:=by
 let(items,Z1,e1,h):=oB h;dsimp at h;$$$$$h
 .ext1 ek;$(qi H0 ps Z σ H Hi items Z1 _ e1 S λJ M C S1 s1 jw=>?_);ext D V;let(Hi2,O,Y):=oP (ac (kb,j)) caps S1;let go:∀(io:Bool) (c:Dat),(aZ (ac (kb,j)) caps Z1)[j]?=ac (kindAt io c)->∀(n:List Dat) (B:DS) (z:Dat),compLoop g fc fe items [] ((cD caps<|aZ (ac (kb,j)) caps Z1).set kb (.io c))=ac (n,B)->B[kb]?=ac (.io z) ->
    r=.O (.L n)->A=(aZ (ac (kb,j)) caps Z1).set j (kindAt io z) ->
    ∃W:Nat->Nat->St->Hp->Prop,(∃m,W 0 m (fg caps σ)<|upd M D<|.L [])/\∀i m G s,W i m G s->(J.stop i s/\Q (.ref D) s)\/(J.go i s/\∀x N,J.lJ i s x N->lE X.K g x G N λE H2=>la X.K fc E H2 λb H3 =>
     if b=bd then kY X.K fe E H3 λy H4=>∃ys,H4 D=ac (.L ys)/\ys.length<a9/\∃I,I<m/\W (i+1) I E (upd H4 D<|.L<|ys++[y])
     else∃I,I<m/\W (i+1) I E H3):=by
   ext io c F n B z t L er ed;$$er;$$ed;let(p,ep,op):=O.at F;$(Hq (L' O ek ep op) (by
     delta noOwn;rw[ib];ext s j;let h||h:=List.mem_or_eq_of_mem_set j
     .$(ib.1 (C7) s h)
     rw[h]) V (jw.mono Y) t λG s u vs S' sm V8 nb eD ra hd=>?_)
   let(q,_,oq,eq):=S'.io kb z L;let hq:=A7 ⟨kb,eq⟩;$$hq;let(S3,rr):=O.BR (r:=.O<|.L n) F ep (λb o e hb=>V8 b o e λl=>hb<|A7 l) sm S'.sub nb oq {D,ρ,⟨vs,eD,ra,hd⟩,V};$(k (.ref D) s u S3 ((s1.trans Y).trans sm) rr)
  $$$$$h
  .ext1 c F;cases t:compLoop g fc fe items [] ((cD caps<|aZ (ac (kb,j)) caps Z1).set kb (.io c))with
   |none=>rw[t]at h;$(nO h)
   |some q =>
    let(n,B):=q;rw[t]at h;simp at h;$$$$$h
    .ext1 z L;$$$h;$(go false c F n B z t L ρ ρ)
    $$$h
  .ext1 c F;cases t:compLoop g fc fe items [] ((cD caps<|aZ (ac (kb,j)) caps Z1).set kb (.io c))with
   |none=>rw[t]at h;$(nO h)
   |some q =>
    let(n,B):=q;rw[t]at h;simp at h;$$$$$h
    .ext1 z L;$$$h;$(go true c F n B z t L ρ ρ)
    $$$h
  $(nO h)
 $(nO h)
def Na{NB:List ew}{caps:List (Option Nat)}{scope:Rr}{elt iter l:fA}{ifs:List fA}{fi:IF}{g:GF}{fc:BF}{fe:DF}(kb j:Nat)(n:X.calm=bd)(B:i8 X.env.scope scope)(m:gA X.N NB scope caps=bd)(hi:dv X l iter fi)
 (o:∀(h:List (ew×cA)) (C:cA) (c:dq) (H:Hp) (k:List cA),DG (cu X NB scope h C c H k) l g)(q:∀(h:List (ew×cA)) (C:cA) (c:dq) (H:Hp) (k:List cA),lP (cu X NB scope h C c H k) ifs fc)
 (s:∀(h:List (ew×cA)) (C:cA) (c:dq) (H:Hp) (k:List cA),DD (cu X NB scope h C c H k) elt fe)(t:∀x,pw iter X.env x=pure x:=by ext _;rfl) :
  DE X (.ListComp elt [{l,iter,ifs,0}] scope pos) (eO caps (ac (kb,j)) fi g fc fe):=by
 let(wi,u,y):=hi;$({_,F5 (tc:=la X.K fc) n B m u (λh C c H k=>{(o h C c H k).mQ,q h C c H k,(s h C c H k).mQ}) t,Qw y})
end
def r8(d:Dat)(ds:List Dat):Option Nat:=(cR ds).findIdx? λy=>qe y<|toPy d
def GI(K:e6):V->List V->Hp->VK->Prop:=λx vs H Q=>∃a ds d y p b j,x=.ref p/\vs=[y]/\af a H/\Rd H p (.L b)/\aw K a ds b/\Rep K a d y/\bL (.L ds)=bd/\bL d=bd/\r8 d ds=ac j/\Q (.int (j:Int)) H
section
variable{X:Cx}
def UN(B:X.A.units+65<r0):mU X "list.index" (GI X.K):=by
 ext pins s σ H x vs v us Q I rx C h;let(Hi,ds,d,y,p,ws,j,rfl,rfl,sm,rd,rs,D,c,b,E,q):=h;$$rx;let(u,rfl,G):=C.one;let(z,its,n,f,e):=rd.ok I.aj;let c:=hG.1 c;let b:=hG.1 b;let(as,i):=qC I sm (c.1) rs f;let(bs,J):=jd I sm b.1 D G;let k:=k5 c.2;let L:=k5 b.2;let l:=adX _ _ _ k i;let(hj,hit,o):=nk.1 E;let M:its.length=(cR ds).length:=by simp?[<-l,a8]
 let get:∀(m:Nat) (h:m<its.toArray.size),aaj s.heap its.toArray[m]=(cR ds)[m]'(by simp!):=λm h=>by
  let a:(its.map<|aaj s.heap)[m]?=ac (aaj s.heap its.toArray[m]):=by
   rw[ee];let:its[m]?=ac its.toArray[m]:=⋯
   rw[this];rfl
  rw[l]at a;rw[b8 (by rw[<-M];$$$$h)]at a;$((Option.some.inj a).symm)
 let g:j<its.toArray.size:=by simp!
 let hz:=f.length;let l63:=kF;$(HT adO {_,e,ρ} F.entry_list_index (F.args_list_index_2 _ _)
  (SeqAt.list_indexAt p its.toArray n al #[] u (λw=>qe (aaj s.heap w)<|toPy d) j g ?_ ?_ λm r t=>?_) {e,aem (by$$$$i) J k L<|aaL b.2 B,?_})
 lia
 .rwa[get j g]
 .rw[get m r];$(Bool.eq_false_iff.2<|o m t)
 $({.int (j:Int),H,I.tok _,{_,ρ},q})
def rK(f:DF)(fa:AF):DF:=λZ=>(f Z).bind λp=>(fa p.2).bind λq=>match p.1,q.1 with
 |.L ds,[d]=>if bL (.L ds)&&bL d then(r8 d ds).map λj:Nat=>(.int (j:Int),q.2)else al
 |_,_=>al
theorem Lk (A:DD X o f)(B:DA X [e] fa)(C:∀{to:TE}{t:TA},PE X o to->PA X [e] t->PE X (.Call (.Attribute o "index" g) [e] [] pos) (rh X.K "list" (GI X.K) to t)):DD X (.Call (.Attribute o "index" g) [e] [] pos) (rK f fa):=by
 let(to,D,E):=A;let(t,p,q):=B;$({_,C D p,λr ps Z s H F d Z' Q b S k=>?_});let(c,Z1,G,b):=oB b;cases l:fa Z1 with
 |none=>rw[l]at b;$(nO b)
 |some ap =>
  let(as,Z2):=ap;rw[l]at b;dsimp[gD]at b;$$$$$b
  .ext1 ds x;$$$$$b
   .ext1 h;let h:=hG.1 h;let(j,I,b):=oM b;let(rfl,rfl):=sP b;$(E r ps Z s H F _ Z1 _ G S λv J u w L M=>?_);let(a,z,rfl,rd,rs):=M;$({ι {ρ,z,ι<|Rd.mono w.sub rd},q r ps Z1 s J u _ _ _ l w λvs N i m n O=>?_});let(y,yr,rfl,P,R):=O;$$R;$({i,ds,x,y,a,z,j,ρ,ρ,m.sub,Rd.mono m.sub<|Rd.mono n rd,aw.mono n rs,P,h.1,h.2,I,k _ N i m (L.trans n) ρ})
   $(nO b)
  $(nO b)
end
def PE.or (h:PE X e t)(h':PE X e u):PE X e (λa H Q=>t a H Q\/u a H Q):=λb s a H Q I q=>q.elim (h b s a H Q I)<|h' b s a H Q I
theorem PS.or{X:Cx}{e:zR}{t u:TS}(h:PS X e t)(h':PS X e u):PS X e (λD a H=>t D a H\/u D a H):=λb s a H D I q=>q.elim (h b s a H D I)<|h' b s a H D I
def PG.or (h:PG X e t)(h':PG X e u):PG X e (λv a H Q=>t v a H Q\/u v a H Q):=λb s a H v z Q I r q=>q.elim (h b s a H v z Q I r)<|h' b s a H v z Q I r
def TL(n:Nat)(t:jc):TG:=λv b H Q=>∃a xs,v=.ref a/\Rd H a (.L xs)/\xs.length=n/\t xs b H Q
section
variable{X:Cx}{pos:q7}{K:e6}{H:Hp}{a b e:fA}{es:List fA}
def M8 (i:X.calm=bd)(h:pT X es t)(j:(pl es X.env).length=n:=by rfl)(d:(pl es X.env).findIdx? (·.1)=al:=by rfl):PG X (.Tuple es k pos) (TL n t):=by ext c s f H v u Q I r hw;let(a,xs,l,p,q,hw):=hw;$$l;$$r;let(z,its,m,g,e):=p.ok I.aj;let w:s.heap.IsList a its.toArray:={_,e,ρ,m,ρ};$(cn<|acv ?_);delta unpack;rw[show(pl es X.env).length=its.toArray.size by simp[j,<-q,g.length],d];$(cn<|pA (W.kun_itemsOf (I.ok.hd i) w λh' hx=>?_));let x:=I.kept (t':=s.toks) λb o e=>hx b o (gk<|e7 e) e;$(h c _ f H xs _ Q x (g) hw)
def xY(n:Nat)(c:List Dat->DS->Option DS):GF
 |.U ds,Z=>if ds.length=n then c ds Z else al
 |.L ds,Z=>if ds.length=n then c ds Z else al
 |_,_=>al
def Jw (j:X.calm=bd)(h:mx X es i)(l:(pl es X.env).length=n:=by rfl)(c:(pl es X.env).findIdx? (·.1)=al:=by rfl):DG X (.Tuple es k pos) (xY n i):=by
 let(t,p,q):=h;$({_,PG.or (Ip j p l c)<|M8 j p l c,λm ps Z o H s d u v Q e S r k=>?_});unfold xY at e;$$$$$e
 .$$$$$e
  .ext1 f;let(a,vs,rfl,g,rs):=r;$(ι {a,vs,ρ,bj.mono S.sub g,by rw[rs.length];$f,q m ps Z o H s _ u vs Q e S rs k})
  $$$e
 .$$$$$e
  .ext1 f;let(a,vs,rfl,g,rs):=r;$(τ {a,vs,ρ,Rd.mono S.sub g,by rw[rs.length];$f,q m ps Z o H s _ u vs Q e S rs k})
  $$$e
 $(nO e)
def v8:Dat->String
 | .aP=>"NoneType" | .bl _=>"bool" | .int _=>"int" | .str _=>"str" | .U _=>"tuple" | .L _=>"list" | .cg _=>"dict" | .exc _=>"" | .ins _ _=>"" | .cM _=>"" | .adr _=>"" | .eQ _=>"" | .bA _ _=>""
def pX(T c:String):Bool:=T==c||(T == "bool" && c == "int")
def uv:List String:=["tuple","list","str","int","bool"]
def Ri:∀T∈["NoneType","bool","int","str","tuple","list","dict"],∀c∈uv,W.kitOne [] (.type T) (.type c)=ac (pX T c):=by decide +kernel
def mW (h:T∈["NoneType","bool","int","str","tuple","list","dict"])(h':c∈uv):W.kitOne K (.type T) (.type c)=ac (pX T c):=by rw[<-Ri T h c h'];rfl
def isExc:Dat->Bool
 |.exc _=>true
 |.ins _ _=>true
 |.cM _=>true
 |.adr _=>true
 |.eQ _=>true
 |.bA _ _=>true
 |_=>false
def iG(d:Dat)(T:String):Option Bool:=if isExc d=bi/\T∈uv then ac (pX (v8 d) T)else al
def KP(K:e6):List V->Hp->VK->Prop:=λxs H Q=>∃c d x T b,xs=[x,.ty T]/\af c H/\Rep K c d x/\iG d T=ac b/\Q (.bl b) H
theorem NJ:bP X (.builtin "isinstance") (KP X.K):=by
 ext l s B H xs us Q I r h;let(Hi,d,x,T,b,rfl,sm,rd,e,q):=h;let(u,c,rfl,g,m):=r.two;$$m;delta iG at e;$$$$$e
 case isFalse=>$(nO e)
 case isTrue hh =>
  $$$$$$e;let(hx,j):=hh;let f:∀tk,EP X l B Q (.bool<|pX (v8 d) T) {s with toks:=tk}:=λtk=>{.bl _,H,I.tok _,ρ,q};cases d with
  |aP=>$$rd;$$g;$(abw W.kitx_none I.gI aaF (mW ⋯ j) (λz=>nomatch z) f)
  |bl y=>$$rd;$$g;$(abw W.kitx_bool I.gI aaF (mW ⋯ j) (λz=>nomatch z) f)
  |int i=>$$rd;let(t,rfl):=g;$(abw W.kitx_int I.gI aaF (mW ⋯ j) (λz=>nomatch z) f)
  |str y=>$$rd;let(t,rfl):=g;$(abw W.kitx_str I.gI aaF (mW ⋯ j) (λz=>nomatch z) f)
  |U ds=>let(p,vs,rfl,v,_):=rd;$$$g;let(its,_,(o,k,w,_),_):=I.tuple<|bj.mono sm v;$(abw W.kitx_tuple I.gI ⟨o,k,w⟩ (mW ⋯ j) (λz=>nomatch z) f)
  |L ds=>let(p,vs,rfl,v,_):=rd;$$$g;let(z,its,n,_,k):=(Rd.mono sm v).ok I.aj;$(abw W.kitx_list I.gI {_,k,ρ} (mW ⋯ j) (λz=>nomatch z) f)
  |cg A=>let(p,kvs,rfl,D,_):=rd;$$$g;let(_,_,ws,_,o,es,ep,k,w,_):=I.aj p _<|sm _ _ D;$(abw W.kitx_dict I.gI ⟨o,k,w.1⟩ (mW ⋯ j) (λz=>nomatch z) f)
  |exc C=>lk
  |ins C fs=>lk
  |cM ns=>lk
  |adr p=>lk
  |eQ A=>lk
  |bA fz A=>lk
def jo(T:String)(f:DF):DF:=λZ=>(f Z).bind λp=>(iG p.1 T).map λb=>(.bl b,p.2)
def sy (s:DD X e f)(j:Gl X "isinstance")(l:X.mg "isinstance"=al)(m:Gl X g)(n:X.mg g=al)(u:C' g=ac (.type T))(w:g≠"__name__":=by decide)(hd:bM g:=by decide)(o:bI X e [.Name g q]:=by rfl):DD X (.Call (.Name "isinstance" p) [e,.Name g q] [] pos) (jo T f):=by let(t,x,y):=s;$({_,vJ NJ j l (by decide +kernel) (kI x (kI (UL (v:=.ty T) m n u ρ w hd) pS ρ) o) ⋯ ρ o ρ,λz ps Z A H B d Z' Q h S k=>?_});let(c,Z1,C,h):=oB h;let(b,D,h):=oM h;let(rfl,rfl):=sP h;$(y z ps Z A H B c _ _ C S λv E i r F G=>{i,c,v,T,b,ρ,r.sub,G,D,k _ E i r F ρ})
def oX(neg:Bool):R2:=λy x H Q=>∃a o,x=.ref a/\i9 H a y o/\Q (.bl (if neg then !o.isSome else o.isSome)) H
def xS(c:X.A.units+1<r0):aV X (j' .In) (oX false):=by ext pins s σ H x y v u Q I rx d h;let(a,o,rfl,g,q):=h;$$d;$(Me c I g rx λs' f=>{.bl _,H,f,ρ,q})
def BE(c:X.A.units+1<r0):aV X (j' .NotIn) (oX true):=by ext pins s σ H x y v u Q I rx d h;let(a,o,rfl,g,q):=h;$$d;$(Jg c I g rx λs' f=>{.bl _,H,f,ρ,q})
def VO:bP X (.type "dict") (λxs H Q=>∃a kvs,xs=[.ref a]/\Rd H a (.dK kvs)/\∀p,H p=al->Q (.ref p) (upd H p<|.dK kvs)):=by ext pins s σ H xs us Q I r h;let(a,kvs,rfl,rd,q):=h;let(u,rfl,c):=r.one;$$c;$(SM I rd λp s' d f=>{.ref p,_,f,ρ,q p d})
def dC(c:List (ew×Dat))(k:ew):Option Dat:=(c.find? λp=>am<|p.1=k).map (·.2)
def Br(c:List (ew×Dat))(k:ew)(d:Dat):List (ew×Dat):=if(dC c k).isSome=bd then c.map (λp=>if p.1=k then(p.1,d)else p)else c++[(k,d)]
theorem bN.find:∀{c:List (ew×Dat)}{kvs:List (Key×V)}(k:ew),bN K H c kvs->(∀d,dC c k=ac d->∃v,fL kvs (px k)=ac v/\Rep K H d v)/\(dC c k=al->fL kvs (px k)=al)
 |[],_,k,h=>by rw[show _=[]from h];$({λd z=>by simp[dC]at z,λ_=>rfl})
 | (f,d')::c,_,k,j=>by
  let(v,r,e,q,t):=j;rw[e];let(a,b):=bN.find k t;ext(g:f=k)
  .$$g;let i:dC ((f,d')::c) f=ac d':=by simp[dC]
   rw[i,qL ρ];$({λd z=>{v,ρ,by$$$$$$z;$q},λz=>by lk})
  let i:dC ((f,d')::c) k=dC c k:=by simp[dC,g]
  rw[i,rl (by$$$$g)];$(⟨a,b⟩)
theorem bN.has (k:ew)(h:bN K H c kvs):(fL kvs<|px k).isSome=(dC c k).isSome:=by
 let(a,b):=h.find k;cases e:dC c k with
 |none=>rw[b e];rfl
 |some d=>let(v,f,_):=a d e;rw[f];rfl
theorem bN.jf:∀{c:List (ew×Dat)}{kvs:List (Key×V)}(k:ew) {d:Dat}{v:V},bN K H c kvs->Rep K H d v->bN K H (c.map λp=>if p.1=k then(p.1,d)else p) (kvs.map λp=>if p.1=px k then(p.1,v)else p)
 |[],_,k,_,_,h,_=>by simp?[show _=[]from h];$ρ
 | (i,d')::c,_,k,d,v,j,f=>by
  let(w,r,e,q,t):=j;rw[e,fR,fR];ext(g:i=k)
  .$$g;rw[if_pos ρ,if_pos ρ];$({v,_,ρ,f,bN.jf i t f})
  rw[if_neg g,if_neg (by$$$$g)];$({w,_,ρ,q,bN.jf k t f})
theorem bN.snoc:∀{f:List (ew×Dat)}{kvs:List (Key×V)}(k:ew) {d:Dat}{v:V},bN K H f kvs->Rep K H d v->bN K H (f++[(k,d)]) (kvs++[(px k,v)])
 |[],_,k,_,v,h,c=>by rw[show _=[]from h];$({v,[],ρ,c,ρ})
 |(_,_)::_,_,k,_,_,g,c=>by let(w,r,e,q,t):=g;$({w,r++_,by rw[e];rfl,q,bN.snoc k t c})
def bN.put (k:ew)(h:bN K H c kvs)(f:Rep K H d v):bN K H (Br c k d) (putK kvs (px k) v):=by
 delta Br putK;rw[vD,h.has k];split
 .$(h.jf k f)
 $(h.snoc k f)
def dJ:Dat->Dat->Option Dat
 |.cg d,.str k=>dC d k
 |c,n=>rH c n
def rB(f g:DF):DF:=λZ=>(f Z).bind λp=>(g p.2).bind λq=>(dJ p.1 q.1).map λd=>(d,q.2)
def rM(i:Nat)(g:DF):DF:=λZ=>((Z[i]?).bind jK).bind λ_=>(g Z).bind λq=>((q.2[i]?).bind jK).bind λc=>(dJ c q.1).map λd=>(d,q.2)
theorem Q5{x:ew}{R:q7}{g:DF}(i:Nat)(T:X.A.units+1<r0)(z:X.N[i]?=ac x)(B:cw X.env.scope x)(U:DD X b g)(C:oQ b)(hd:bM x:=by decide)(q:cT x:=by decide):DD X (.Subscript (.Name x R) b pos) (rM i g):=by
 let(tb,D,E):=U;$({_,PE.or (Cy Dq (eX z B hd q) D C)<|zP T (eX z B hd q) D C,λF ps Z G H I d Z' Q e S k=>?_});let(c0,V,e):=oA e;let(n,Z2,J,e):=oB e;let(c,L,e):=oA e;dsimp at e;cases l:dJ c n with
 |none=>rw[l]at e;$(nO e)
 |some d' =>
  rw[l]at e;$$$e;let(M,m,_):=S.peek V;ext(hd:∃O o,c=.cg O/\n=.str o)
  .let(O,o,rfl,rfl):=hd;$(τ {M,m,E F ps Z G H I _ _ _ J S λy r f h s t=>?_});let(W,j,u):=h.peek L;rw[m]at j;$$$j;let(p,kvs,rfl,Y,rk):=u;$$t;let(v,ev,w):=(rk.find o).1 d l;$({p,v,ρ,?_,k v r f h s w});rw[<-ev];$(i9.k (k:=px o) Y)
  let P:rH c n=ac d:=by delta dJ at l;simp!
  $(ι {M,m,E F ps Z G H I _ _ _ J S λy r f h s t=>?_});let(W,j,u):=h.peek L;rw[m]at j;$$$j;$(C4 u t P λv w=>k v r f h s w)
def iO(neg:Bool):Dat->Dat->Option Res
 |.str k,.cg c=>ac (.D<|.bl (if neg then !(dC c k).isSome else(dC c k).isSome))
 |.str k,.eQ c=>ac (.D<|.bl (if neg then !(dC c k).isSome else(dC c k).isSome))
 |d,e=>xk neg d e
def AA:ff X (λx y H Q=>pQ X.K neg x y H Q\/oX neg x y H Q) (iO neg):=by
 ext j ps Z l H f x y d d' o Q e S rx g k;delta iO at e;$$$$$e
 .$$$e;ext1 c m;$$$rx;let(p,kvs,rfl,h,i):=g;$(τ {p,_,ρ,i9.k (k:=px c)<|S.sub _ _ h,?_});rw[i.has c];$(k _ H f S (af.refl _) ρ)
 .$$$e;ext1 c m;$$$rx;let(p,n,kvs,rfl,h,i):=g;$(τ {p,_,ρ,ι {kvs,px c,τ {n,S.sub _ _ h},ρ,ρ},?_});rw[i.has c];$(k _ H f S (af.refl _) ρ)
 $(ι<|VL j ps Z l H f x y _ _ o Q e S rx g k)
def Hb(c:X.A.units+65<r0):aV X (j' .In) (λx y H Q=>pQ X.K false x y H Q\/oX false x y H Q):=aV.or (UY c)<|xS (by lia)
def Gr:List Dat->Option Res
 |[.cg c]=>ac (.O<|.cg c)
 |_=>al
def J7:CD X (λxs H Q=>∃a kvs,xs=[.ref a]/\Rd H a (.dK kvs)/\∀p,H p=al->Q (.ref p) (upd H p<|.dK kvs)) Gr:=by
 ext H0 ps Z σ H d vs ds o Q e S r k;delta Gr at e;$$$$$e
 .$$$$$$e;let(v,vr,rfl,(p,kvs,rfl,f,g),h):=r;$$h;$({p,kvs,ρ,Rd.of<|S.sub _ _ f,λq c=>?_});$(k (.ref q) _ d (S.made c) (af.refl _) {q,ρ,{kvs,bw,g,S.dP c},(S.bU c).2,(S.bU c).1,S.eM c})
 $(nO e)
theorem Bv (a):∀(n:Nat) (b:Array c),(nB n a).foldl (λx y=>x++y) b=b++(nB n a.toList).flatten.toArray
 |0,b=>⋯
 |n+1,b=>by rw[ad3,aaS,Bv a n,ad3,List.flatten_cons,ad5];congr 1;apply afN;simp
theorem zH{f g:Type}{R:List f->List g->Prop}(i:R [] [])(j:∀{a b c d},R a b->R c d->R (a++c) (b++d)){a:List f}{b:List g}(h:R a b):∀n,R (nB n a).flatten (nB n b).flatten
 |0=>i
 |n+1=>j h<|zH i j h n
theorem Vx{f g:Type}{R:f->g->Prop}{a:List f}{b:List g}{c:List f}{d:List g}(p:aao R a b)(h:aao R c d):aao R (a++c) (b++d):=by
 induction p with
 |nil=>$h
 |cons r _ i=>$(.cons r i)
def GP:R2:=λx y H Q=>∃l xs n,x=.ref l/\y=.int n/\Rd H l (.L xs)/\(0<=n/\n<=2/\xs.length<=1000)/\∀p,H p=al->Q (.ref p) (upd H p<|.L (nB n.toNat xs).flatten)
def Eo(x:ew):It:=⟨λi _=>i<x.cps.size,λi H v d=>d=H/\∃c,x.cps[i]?=ac c/\v=.str ⟨#[c]⟩,λi _=>x.cps.size<=i⟩
theorem Jx{P:hE}{w:iR}{K:e6}{D:fA}(x:ew)(t:Tok)(it:cA):Turn P w K D (Eo x) [it] it (λi h=>h.IsStrIter it "str_ascii_iterator" x t i) where
 mem:=⋯
 obj:=λi h st b f=>by
  let e:b=it:=by$$$$f
  $$e;let(o,e,c,d):=st;$({o,e,λv z=>by rw[d]at z;lk})
 keep:=λi h h' st k=>by let(o,e,c,d):=st;$({o,k it ⋯ o e,c,d})
 item:=by ext X m hw n B i g s C H E I j st p;let(q,r,F,u,y,A):=j it ⋯;let hx:=nq p;$(wpAny_pyNext_ascii_item st hx λh' l G=>?_);let J:Inv X g C H {s with heap:=h',toks:=s.toks+1}:=I.turned (λb o f e=>(G.2 b f).trans e) q r u y A;let(o,e,c,d):=id l;$({_,ρ,p9 e c d ρ {.str ⟨#[x.cps[i]]⟩,H,J,{_,ρ},{ρ,_,hx,ρ},l,λb f=>(j b f).1}})
 done:=by ext X m hw n B i g s C H E I j st p;let(q,r,F,u,y,A):=j it ⋯;$(wpAny_pyNext_ascii_end (I.ok.hd B) st (adq p) λh' L=>{ρ,I.turned (λb o f e=>L b o f e) q r u y A})
 self:=λ_ _ _ _ _ st h=>wpAny_pyIter_striter_ascii st h
def Ly(te:TE):TI:=λc H R=>te c H λv d=>∃x,v=.str x/\x.cps.all (·<128)=bd/\R (Eo x) d
theorem Vp{g e:fA}{te:TE}(i:PE X e te):PI X g e (Ly te):=by$(λd s j H R I h=>aF (i d s j H _ I h) λv c g=>?_);let(y,k,f,l,m):=g;let(x,rfl,n,q):=m;let(t,rfl):=l;$(wpAny_pyIter_ascii n {c.heap.objs.size,[c.heap.objs.size],_,_,k,ρ,f.kept λb o e=>eJ _ e,Jx x t _,{_,g8 _ ρ,ρ,ρ},λb p=>?_,q});rw[show b=c.heap.objs.size by$$$$p];$(f.kB (eS _)<|f.aj.fresh<|eS _)
theorem EN:∀{ys:List ew}{c:List bt},aH (ys.map V.str) c->abq c ys
 |[],_,h=>by$$$h;$(.nil)
 | y::ys,_,h=>by
  cases h with
  |cons r t=>let(tk,rfl):=r;$(.cons _ _<|EN t)
theorem AD:∀{bs:List Bool}{c:List bt},aH (bs.map V.bl) c->c=bs.map uy
 |[],_,h=>by$$$h;rfl
 | b::bs,_,h=>by
  cases h with
  |cons r t =>
   cases(r);rw[AD t];rfl
theorem Q7(bs:List Bool):((lb bs.length).all λi=>(bs[i]?).getD true)=bs.all id:=by
 induction bs with
 |nil=>rfl
 |cons b r c=>simp?[fq,adv,aaN,aft,aaN,<-c];rfl
def IW(j:X.calm=bd):bP X (.builtin "all") (λxs H Q=>∃(p:cA) (bs:List Bool),xs=[.ref p]/\Rd H p (.L<|bs.map V.bl)/\Q (.bl<|bs.all id) H):=by
 ext pins s σ H xs us Q I r h;let(p,bs,rfl,rd,q):=h;let(u,rfl,k):=r.one;$$k;let(z,its,n,l,e):=rd.ok I.aj;let d:=AD l;$$d;let f:s.heap.IsList p (bs.map uy).toArray:={_,e,ρ,n,ρ};let m:p<s.heap.objs.size:=e7 e;$(call_all_walk (xr f ⟨s.heap.objs.size,[s.heap.objs.size,p],[s.heap.objs.size],(bs.map uy).toArray.size,_,_,λi=>(bs[i]?).getD true,ρ,
  Walks.list (A:=X.A.in1) (I.ok.hd j) _ p (gk m) (bs.map uy).toArray,{{_,g8 _ ρ,ρ,ρ},f.push _},λi v s' Q' E' c g=>?_,λh' tk o=>?_⟩))
 .let c:(bs.map uy)[i]?=ac v:=by$$$$c
  rw[ee]at c;let(b,d,c):=oM c;$$$$$$c;simp[d]at g;$(z9 g)
 let t:(lb (bs.map uy).toArray.size).all (λi=>(bs[i]?).getD true)=bs.all id:=by rw[fv,a8];$(Q7 bs)
 rw[t];$({.bl _,H,?_,ρ,q});$(I.kept λb x ex=>o b x (λw=>by rw[ka.1 w]at ex;$(p5 _<|e7 ex))<|eJ _ ex)
def alt (f g:c->Option d):c->Option d:=λa=>match f a with
 |some b=>ac b
 |none=>g a
theorem xi{c d:Type}{f g:c->Option d}{a:c}{b:d}(h:alt f g a=ac b):f a=ac b\/g a=ac b:=by delta alt at h;$$$$$h;simp!;$(τ h)
theorem DE.alt{e:fA}{f g:EF}(h:DE X e f)(h':DE X e g):DE X e (alt f g):=by let(t,p,q):=h;let(t',m,n):=h';$({_,PE.or p m,λc ps Z i H j d l Q e S k=>(xi e).elim (λe=>ι<|q c ps Z i H j d l Q e S k) λe=>τ<|n c ps Z i H j d l Q e S k})
theorem cH.alt{st:zR}{f g:SF}(h:cH X st f)(h':cH X st g):cH X st (alt f g):=by let(t,p,q):=h;let(t',j,l):=h';$({_,PS.or p j,λc ps Z d H i o D e S k=>(xi e).elim (λe=>ι<|q c ps Z d H i o D e S k) λe=>τ<|l c ps Z d H i o D e S k})
theorem dv.alt{c iter:fA}{f g:IF}(h:dv X c iter f)(h':dv X c iter g):dv X c iter (alt f g):=by let(t,p,q):=h;let(t',m,n):=h';$({_,PI.or p m,λd ps Z i H j items l R e S k=>(xi e).elim (λe=>ι<|q d ps Z i H j items l R e S k) λe=>τ<|n d ps Z i H j items l R e S k})
def Ap:Dat->Dat->Option Res
 |.L xs,.int n=>if 0<=n/\n<=2/\xs.length<=1000 then ac (.O<|.L (nB n.toNat xs).flatten)else al
 |_,_=>al
theorem Fw{K:e6}{H:Hp}:∀{a:List Dat}{b:List V}{c:List Dat}{d:List V},aw K H a b->aw K H c d->aw K H (a++c) (b++d)
 |[],_,_,_,h,h'=>by cases(h);$h'
 |_::_,_,_,_,f,h'=>by let(v,r,e,p,q):=f;$$e;$({v,_,ρ,p,Fw q h'})
def Vm:ff X GP Ap:=by
 ext H0 ps Z σ H f x y d d' o Q e S rx g k;delta Ap at e;$$$$$e
 .$$$$$e
  .ext1 h;$$$$$$e;let(p,vs,rfl,rd,rs):=rx;$$g;$({p,vs,_,ρ,ρ,Rd.mono S.sub rd,by rw[rs.length];$h,λq c=>?_});$(k (.ref q) _ f (S.made c) (af.refl _) {q,ρ,{_,bw,zH (R:=aw _ _) ρ Fw rs _,S.dP c},(S.bU c).2,(S.bU c).1,S.eM c})
  $(nO e)
 $(nO e)
def Vj (c:DD X a f)(d:DD X b g):DE X (.BinOp a .Mult b pos) (cK Ap f g):=mE (by
  ext pins s σ H x y v u Q I rx d h;let(l,xs,n,rfl,rfl,rd,f,q):=h;$$rx;let(tk,rfl):=d;let(z,its,k,r,e):=rd.ok I.aj;let g:=r.length;let hsz:its.toArray.size*n.toNat<=sizeLine:=by$(m3 (afa (g ▸ f.2.2) (show n.toNat<=2 by lia)) ⋯)
  $(wpAny_binaryOp_repeat_ref ⋯ {_,e,ρ} (λs'=>ae4 s' n tk) noFill_list_mul
   F.fills_int_mul afp repeat_list F.slot_int_index.lookup ?_)
  $(HT afp (ae4 s n tk) F.entry_int_rmul (F.args_int_rmul_2 _ _) (int___rmul___int_list n tk l its.toArray k) {e,ρ,{_,e,ρ},?_});$(HT F.slot_list_mul {_,e,ρ} F.entry_list_mul (F.args_list_mul_2 _ _)
   (AutoListH.list___mul___list_int_3 l its.toArray k n tk (by simp[ab3];lia) (by rw[vi]at hsz;lia) (by simp?[afQ];$$$$hsz)) {e,?_})
  let i:(List.foldl (λj m=>j++m) #[] (nB (if its.toArray.isEmpty=bd then 0 else n.toNat) its.toArray))=(nB n.toNat its).flatten.toArray:=by
   rw[Bv];split
   .ext1 h;let:its=[]:=by$$$$h
    $$this;simp
   simp
  rw[i];let c:=zH .nil Vx r n.toNat;$({.ref _,_,I.sx c ?_,ρ,q _ I.fresh});rwa[c.length,List.length_flatten,List.map_replicate,List.sum_replicate_nat,Nat.mul_comm]) Vm c d
def nI(f:DF):IF:=λZ=>(f Z).bind λp=>match p.1 with
 |.str x=>if x.cps.all (·<128)=bd then ac (x.cps.toList.map λc=>.str ⟨#[c]⟩,p.2)else al
 |_=>al
def IJ (h:DD X e f):dv X n e (nI f):=by
 let(t,p,q):=h;$({_,Vp p,λo ps Z r H s items Z' R g S k=>?_});let(c,Z1,u,g):=oB g;dsimp at g;$$$$$g
 .ext1 x;$$$$$g
  .ext1 w;let(rfl,rfl):=sP g;$(q o ps Z r H s _ _ _ u S λv z l A B C=>?_);$$C;$({x,ρ,w,k _ z l A B λi H' sm=>{λd hd=>?_,λD=>?_}})
   .rw[ee,lp]at hd;let(c,m,hd):=oM hd;$$$$$$hd;$({(Array.getElem?_eq_some_iff.1 m).1,λv H2 y=>ι ?_});let(E,c',j,F):=y;rw[m]at j;$$$$$$j;$(⟨E,F⟩)
   show x.cps.size<=i;$$$$D
  $(nO g)
 $(nO g)
def d7:List Dat->Option (List ew)
 |[]=>ac []
 |.str x::r=>(d7 r).map (x::·)
 |_::_=>al
theorem lO{K:e6}{H:Hp}:∀{ds:List Dat}{vs:List V}{ys:List ew},d7 ds=ac ys->aw K H ds vs->vs=ys.map V.str
 |[],_,_,e,r=>by$$$$$$e;$r
 | d::ds,_,_,e,c=>by
  let(v,vr,f,g,rs):=c;cases d with
  |str x=>let(ys',h,e):=oM e;$$$$$$e;simp?[f,lO h rs];$$g;rfl
  |_=>$(nO e)
def ko(sep:ew)(f:DF):DF:=λZ=>(f Z).bind λp=>match p.1 with
 |.L ds=>(d7 ds).bind λys=>if sep.length<=16/\(ys.map (·.length)).sum+ys.length<=1048576 then ac (.str<|kH sep ys,p.2)else al
 |_=>al
def Kf (h:DD X e f)(o:∀{t:TA},PA X [e] t->PE X (.Call (.Attribute (.Constant (.str sep) j p0) "join" i) [e] [] pos) (rh X.K "str" (λx vs H Q=>∃(sep:ew) (p:cA) (ys:List ew),x=.str sep/\vs=[.ref p]/\Rd H p (.L<|ys.map V.str)/\sep.length<=16/\(ys.map (·.length)).sum+ys.length<=1048576/\Q (.str<|kH sep ys) H) (tC<|.str sep) t))(r:bI X e []:=by rfl):DD X (.Call (.Attribute (.Constant (.str sep) j p0) "join" i) [e] [] pos) (ko sep f):=by
 let(t,p,q):=h;$({_,o<|kI p pS r,λs ps Z u H w d Z' Q g S k=>?_});let(c,Z1,y,g):=oB g;dsimp at g;$$$$$g
 .let(ys,z,g):=oA g;$$$$$g
  .ext1 l;let(rfl,rfl):=sP g;$({ρ,q s ps Z u H w _ _ _ y S λv A m n B C=>?_});let(a,vs,rfl,rd,rs):=C;rw[lO z rs]at rd;$({sep,a,ys,ρ,ρ,Rd.mono n.sub rd,l.1,l.2,k _ A m n B ρ})
  $(nO g)
 $(nO g)
def jv:List Dat->Option (List Bool)
 |[]=>ac []
 |.bl x::r=>(jv r).map (x::·)
 |_::_=>al
theorem Bi{K:e6}{H:Hp}:∀{ds:List Dat}{vs:List V}{ys:List Bool},jv ds=ac ys->aw K H ds vs->vs=ys.map V.bl
 |[],_,_,e,r=>by$$$$$$e;$r
 | d::ds,_,_,e,c=>by
  let(v,vr,f,g,rs):=c;cases d with
  |bl x=>let(ys',h,e):=oM e;$$$$$$e;simp?[f,Bi h rs];$$g;rfl
  |_=>$(nO e)
def ou:List Dat->Option Res
 |[.L ds]=>(jv ds).map λbs=>.D (.bl<|bs.all id)
 |_=>al
def zr(i:Nat)(d f:DF):SF:=λZ=>(f Z).bind λp=>((p.2[i]?).bind ownOf).bind λ_=>(d p.2).bind λq=>((q.2[i]?).bind ownOf).bind λs=>match s.2,q.1 with
 |.cg c,.str k=>if c.length<a9 then ac (.next<|q.2.set i<|kindAt s.1<|.cg<|Br c k p.1)else al
 |_,_=>al
theorem JF{x:ew}{s pt:q7}{l e:fA}{u f:DF}(i:Nat)(L:X.A.units+1<r0)(M:X.N[i]?=ac x)(O:cw X.env.scope x)(h:DD X e f)(P:DD X l u)(hd:bM x:=by decide)(w:cT x:=by decide)
 (Q:um e (ac<|.Subscript (.Name x s) l pt) pos.line X.env=pure false:=by rfl):cH X (.Assign [.Subscript (.Name x s) l pt] e pos) (zr i u f):=by
 let(t,p,q):=h;let(tk,R,T):=P;$({_,HW L (eX M O hd w) R p Q,λz ps Z m H U o D e S k=>?_});let(d,Z1,V,e):=oB e;let(b0,c0,W,e):=oB e;let(n,Z2,Y,e):=oB e;dsimp at e;cases g:(Z2[i]?).bind ownOf with
 |none=>rw[g]at e;$(nO e)
 |some j =>
  let(io,c):=j;simp?[g]at e;dsimp[gD]at e;$$$$$e
  .ext1 ks B;$$$$$e
   .ext1 hz;$$$$$$e;$(q z ps Z m H U d Z1 _ V S λv H1 C E s1 r1=>?_);let(a,r,_):=E.at<|ky W;$({.ref a,r,T z ps Z1 m H1 C _ Z2 _ Y E λy H2 F G j r2=>?_});$$r2;let(b,I,ob):=G.at<|ky g;rw[r]at I;$$$I;let(kvs,h1,J,h3):=ob;$({a,_,ρ,lQ.k (k:=px B) h1 (by rw[bN.length J];$hz),?_});$(k m _ F (G.write (ky g) r {_,bw,bN.put B J<|Rep.mono j r1,h3})<|s1.trans j)
   $(nO e)
  $(nO e)
structure oZ (X:Cx) (pre:List zR) (f:SF):Prop where
 ex:∀(rest:List zR) (u:TS),da X rest u->∃t,da X (pre++rest) t/\∀(H0:Hp×Hp) (ps:Nat->Option cA) (Z:DS) (σ:St) (H Hi:Hp) (o:Out) (D:Ends),f Z=ac o->SR X.K H0 ps Z σ H Hi->mK X H0 ps Hi {D with nx:=λσ' H'=>u D σ' H'} o->t D σ H
def Ge:oZ X [] wB:=⟨λrest u h=>{u,h,λH0 ps Z c H d o D e S k=>by$$$$$$e;$(k c H d S<|af.refl _)}⟩
theorem FE{st:zR}{c:List zR}{f g:SF}(m:cH X st f)(n:oZ X c g):oZ X (st::c) (iQ f g):=by
 $(⟨λd u h=>?_⟩);let(t1,p,q):=m;let(t2,s,t):=n.ex d u h;$({_,kr p s,λi ps Z v H w o D e S k=>?_});let(o1,x,e):=oA e;$(q i ps Z v H w o1 _ x S ?_);cases o1 with
 |next Z1=>$(λj y l z s'=>t i ps Z1 j y l o D e z (mK.mono s' k))
 |ret r Z1=>$$$$$$e;$k
 |brk Z1=>$$$$$$e;$k
 |cont Z1=>$$$$$$e;$k
 |exc C Z1=>$$$$$$e;$k
structure aN (P:hE) (w:iR) (K:e6) (mg:ew->Option bt) (base:k7) (x:ew) (k:Nat) (sp:Sp):Prop where
 is:∃(f:cA) (fd:gi) (pn:List ew),aS P w K mg base aT k f fd pn sp/\mg x=ac (.ref f)/\acB K (.ref f)=bd/\Binds K fd pn []
structure eB (K:e6) (mg:ew->Option bt) (x:ew) (d:Dat):Prop where
 is:∃v u,mg x=ac u/\RelV v u/\∀H,Rep K H d v
def aN.has (h:aN X.prog X.w X.K X.mg X.base x k sp)(c:Gl X x)(d:bS k X.A):A6 X x sp:=by let(f,g,pn,F,m,kp,b):=h.is;$({c,aT,k,f,g,pn,F,d,m,kp,b,(λ_ _ _ _ _ _ _ h=>h.elim)})
def Sb (h:eB X.K X.mg x d)(c:Gl X x)(hd:bM x):DD X (.Name x pos) (fC d):=LQ ⟨c,h.is⟩ hd
def Qu (h:aN X.prog X.w X.K X.mg X.base x k (ay X.K fn))(f:Gl X x)(g:bS k X.A)(c:bM x)(i:bI X e es)(d:(YP pos<|ma es X.env).any (·.1)=bi)(j:DA X (e::es) fa):DE X (.Call (.Name x p) (e::es) [] pos) (cE fn fa):=Ug (h.has f g) j c i d
def LF (h:aN X.prog X.w X.K X.mg X.base x k (dr X.K j fn))(f:Gl X x)(g:bS k X.A)(c:bM x)(l:bI X e es)(d:(YP pos<|ma es X.env).any (·.1)=bi)(m:lu X (e::es) j i fa):DE X (.Call (.Name x p) (e::es) [] pos) (pW fn i fa):=Vq (h.has f g) m c l d
theorem Tn{fa:AF}{p:q7}(c:Gl X "len")(d:X.mg "len"=al)(f:bI X e [])(g:DA X [e] fa):DE X (.Call (.Name "len" p) [e] [] pos) (cE pM fa):=iE zZ Gx c d abL g ⋯ ⋯ f ρ
def Mv (f:X.N.findIdx? (·==x)=ac i)(g:cw X.env.scope x)(h:Gl X "len")(j:X.mg "len"=al)(hd:bM x)(c:cT x):DD X (.Call (.Name "len" p) [.Name x d] [] pos) (qq i):=Qh i (d6 f) g h j hd c
def G3 (c:Gl X "int")(d:X.mg "int"=al)(f:bI X e [])(g:DA X [e] fa):DE X (.Call (.Name "int" p) [e] [] pos) (cE qO fa):=pO RN KW c d (by decide +kernel) g ⋯ ρ f ρ
def To (c:X.calm=bd)(d:Gl X "all")(f:X.mg "all"=al)(g:bI X e [])(h:DA X [e] fa):DE X (.Call (.Name "all" p) [e] [] pos) (cE ou fa):=iE (IW c) (by
  ext H0 ps Z σ H c vs ds o Q e S r k;delta ou at e;$$$$$e
  .let(bs,d,e):=oM e;$$$$$$e;let(v,vr,rfl,(a,ws,rfl,rd,rs),f):=r;$$f;rw[Bi d rs]at rd;$({a,bs,ρ,Rd.mono S.sub rd,k _ H c S (af.refl _) ρ})
  $(nO e)) d f (by decide +kernel) h ⋯ ⋯ g ρ
def La (d:X.calm=bd)(f:Gl X "min")(g:X.mg "min"=al)(h:bI X a [b])(c:(YP pos<|ma [b] X.env).any (·.1)=bi)(i:DA X [a,b] fa):DE X (.Call (.Name "min" p) [a,b] [] pos) (cE xj fa):=iE (UK d) PR f g (by decide +kernel) i ⋯ ρ h c
def Jy (d:X.calm=bd)(f:Gl X "max")(g:X.mg "max"=al)(h:bI X a [b])(c:(YP pos<|ma [b] X.env).any (·.1)=bi)(i:DA X [a,b] fa):DE X (.Call (.Name "max" p) [a,b] [] pos) (cE As fa):=iE (UO d) P7 f g (by decide +kernel) i ⋯ ρ h c
theorem Tf (c:X.A.units+1<r0)(d:oQ b)(h:DD X a f)(i:DD X b g):DD X (.Subscript a b pos) (rB f g):=(λP R T D=>by
  let(ta,E,F):=R;let(tb,G,I):=T;$({_,PE.or (Cy Dq E G D)<|zP P E G D,λm ps Z o H J d Z' Q e S k=>?_});let(c,Z1,L,e):=oB e;let(n,Z2,M,e):=oB e;dsimp at e;cases q:dJ c n with
  |none=>rw[q]at e;$(nO e)
  |some d' =>
   rw[q]at e;$$$e;ext(hd:∃N r,c=.cg N/\n=.str r)
   .let(N,r,rfl,rfl):=hd;$(τ (F m ps Z o H J _ Z1 _ L S λx s h t u w=>?_));$(I m ps Z1 o s h _ _ _ M t λy z i j l B=>?_);let(p,kvs,rfl,U,V):=Rep.mono l w;$$B;let(v,W,C):=(V.find r).1 d q;$({p,v,ρ,?_,k v z i j (u.trans l) C});rw[<-W];$(i9.k (k:=px r)<|j.sub _ _ U)
   let O:rH c n=ac d:=by delta dJ at q;simp!
   $(ι (F m ps Z o H J _ Z1 _ L S λx s h t u w=>?_));$(I m ps Z1 o s h _ _ _ M t λy z i j l B=>?_)
   $(C4 ((Rep.mono l w).top j.sub) B O λv C=>k v z i j (u.trans l) C)) c h i d
def RB (f:X.N.findIdx? (·==x)=ac i)(h:cw X.env.scope x)(j:X.A.units+1<r0)(hd:bM x)(c:cT x)(k:oQ b)(l:DD X b g):DD X (.Subscript (.Name x d) b pos) (rM i g):=Q5 i j (d6 f) h l k hd c
def Tq (c:X.A.units+64<r0)(d:DD X a f)(h:DD X b g):DE X (.Compare a [.Eq] [b] pos) (cK (fE false) f g):=sZ (Ik c) uR d h<|jV _
def QS (c:X.A.units+64<r0)(d:DD X a f)(h:DD X b g):DE X (.Compare a [.NotEq] [b] pos) (cK (fE true) f g):=sZ (CJ c) uR d h<|jV _
theorem Ke{a b:fA}{f g:DF}(c:DD X a f)(d:DD X b g):DE X (.Compare a [.Lt] [b] pos) (cK (eI (λ_ _=>true) λi j=>.bl<|am<|i<j) f g):=sZ wJ (nz λ_ _ _ _=>rfl) c d<|jV _
def R1 (c:DD X a f)(d:DD X b g):DE X (.Compare a [.Gt] [b] pos) (cK (eI (λ_ _=>true) λi j=>.bl<|am<|j<i) f g):=sZ DZ (nz λ_ _ _ _=>rfl) c d<|jV _
def M7 (c:X.A.units+65<r0)(d:tm .In b=bi)(h:DD X a f)(i:DD X b g):DE X (.Compare a [.In] [b] pos) (cK (iO false) f g):=sZ (Hb c) AA h i d
def Pk (c:X.A.units+65<r0)(d:tm .In b=bi)(h:DD X a f)(i:DD X b g):DT X (.Compare a [.In] [b] pos) (e9<|cK (iO false) f g):=lM (Hb c) AA h i d
def Ud (c:X.A.units+65<r0)(d:tm .NotIn b=bi)(h:DD X a f)(i:DD X b g):DT X (.Compare a [.NotIn] [b] pos) (e9<|cK (iO true) f g):=lM ((λc=>aV.or (Ju c)<|BE (by lia)) c) AA h i d
def L1 (h:DD X a f):DD X (.UnaryOp .USub a pos) (λZ=>(f Z).bind λp=>match p.1 with|.int i=>ac (.int<|-i,p.2)|_=>al):=by
 let(t,p,q):=h;$({_,TC (Ll λ_ _ _ _ _ q=>neg_int q) p,λl ps Z m H n d Z' Q g S k=>?_});let(c,Z1,o,g):=oB g;dsimp at g;$$$$$g
 .let(rfl,rfl):=sP g;$(q l ps Z m H n _ _ _ o S λv r j s u w=>?_);$$w;$({_,ρ,k _ r j s u ρ})
 $(nO g)
def gz(scope:Rr):List Str:=(scope.names.filter λp=>p.2 != .globalImplicit).map (·.1)
def pE(N:List ew)(scope:Rr):List (Option Nat):=(gz scope).map λx=>if scope.names.lookup x==some .free then N.findIdx? (·==x)else al
def FY (hnd:N.Nodup)(hXN:X.N=N)(j:X.calm=bd)(B:i8 X.env.scope scope)(i:gA X.N (gz scope) scope (pE N scope)=bd)(k:∀x,pw iter X.env x=pure x)(hi:dv X h iter fi)(l:∀(d:List (ew×cA)) (C:cA) (c:dq) (H:Hp) (f:List cA),DG (cu X (gz scope) scope d C c H f) h g)(m:∀(d:List (ew×cA)) (C:cA) (c:dq) (H:Hp) (f:List cA),lP (cu X (gz scope) scope d C c H f) ifs fc)(n:∀(d:List (ew×cA)) (C:cA) (c:dq) (H:Hp) (f:List cA),DD (cu X (gz scope) scope d C c H f) elt fe):DE X (.ListComp elt [{h,iter,ifs,0}] scope pos) (eO (pE N scope) al fi g fc fe):=Rx j B i hi l m n k
def N1 (l:N.Nodup)(m:X.N=N)(n:X.N.findIdx? (·==y)=ac i)(p:Loc X.env.scope y)(q:X.fn y=bd\/X.env.scope.names.lookup y=some .local)(o:um (.ListComp elt [{j,iter,ifs,0}] scope pos) (ac<|.Name y py) d.line X.env=pure true)(r:X.calm=bd)(B:i8 X.env.scope scope)(k:gA X.N (gz scope) scope (pE N scope)=bd)(s:∀x,pw iter X.env x=pure x)(hi:dv X j iter fi)(t:∀(f:List (ew×cA)) (C:cA) (c:dq) (H:Hp) (h:List cA),DG (cu X (gz scope) scope f C c H h) j g)(u:∀(f:List (ew×cA)) (C:cA) (c:dq) (H:Hp) (h:List cA),lP (cu X (gz scope) scope f C c H h) ifs fc)(v:∀(f:List (ew×cA)) (C:cA) (c:dq) (H:Hp) (h:List cA),DD (cu X (gz scope) scope f C c H h) elt fe):cH X (.Assign [.Name y py] (.ListComp elt [{j,iter,ifs,0}] scope pos) d) (gK i<|eO (pE N scope) al fi g fc fe) :=
 Ks i (m ▸ l) (d6 n) p q r B k hi t u v o s
def L0 (c:X.N.Nodup)(hi:X.N.findIdx? (·==x)=ac i)(hx:Loc X.env.scope x)(d:X.fn x=bd\/X.env.scope.names.lookup x=some .local):DG X (.Name x py) (BI i):=(λi f hi hx g=>by
  $({_,yz f hi hx g,λH0 ps Z σ H Hi d Z' v Q e S r k=>?_})
  $(k _<|S.put (r:=.D d) r e)) i c (d6 hi) hx d
def QK (m:X.N.findIdx? (·==x)=ac i)(n:cw X.env.scope x)(hd:bM x)(k:cT x)(g:z3 (.Name x d) "append" X.env (eval (.Name x d) X.env)=eval (.Name x d) X.env)(j:my X pos e)(h:(c.endLine==pos.line)=bd)(o:bI X e [])(l:um (.Call (.Attribute (.Name x d) "append" c) [e] [] pos) al f.line X.env=pure false)(p:DA X [e] fa) :
  cH X (.Expr (.Call (.Attribute (.Name x d) "append" c) [e] [] pos) f) (mw<|iM i pV fa):=Bb (QO i (d6 m) n p hd k g j h o) l
def RO (d:z3 (.Constant (.str sep) j p0) "join" X.env (eval (.Constant (.str sep) j p0) X.env)=eval (.Constant (.str sep) j p0) X.env)(i:my X pos e)(g:(c.endLine==pos.line)=bd)(k:bI X e [])(h:DD X e f):DD X (.Call (.Attribute (.Constant (.str sep) j p0) "join" c) [e] [] pos) (ko sep f) :=
 Kf h (λl=>mD ac7 PySem.F.slot_str_join PySem.F.type_str_join (by ext pins s σ H x vs v us Q I rx c h;let(sep,p,ys,rfl,rfl,rd,d,f,q):=h;let(t,rfl):=rx;let(u,rfl,g):=c.one;$$g;let(z,its,n,r,e):=rd.ok I.aj;$(join_listW {_,e,ρ,n,ρ} (EN r) d f λt' k=>{.str _,H,I.tok k,⟨t',ρ⟩,q})) EE l d i g k ρ) k
def O3 (f:X.calm=bd)(g:(pl es X.env).length=es.length)(d:(pl es X.env).findIdx? (·.1)=al)(h:mx X es c):DG X (.Tuple es k pos) (xY es.length c):=Jw f h g d
def lX (h:bS k A):A.units+1<cLine:=by let:=h.un;lia
def vc (h:bS k A):A.units+64<cLine:=by let:=h.un;lia
def qN (h:bS k A):A.units+65<cLine:=by let:=h.un;lia
def F7(sc scope:Rr):Bool:=scope.kind==.function&&scope.names.all (λy=>y.2 != .cell&&(y.2 != .local||scope.names.lookup y.1==some .local)&&(y.2 != .free||sc.names.lookup y.1==some .cell||sc.names.lookup y.1==some .free))
def uC (h:F7 d scope=bd):i8 d scope:=by
 delta F7 at h;simp?[ec]at h;let g:∀y∈scope.names,y.2≠.cell/\(y.2=.local->scope.names.lookup y.1=some .local)/\(y.2=.free->d.names.lookup y.1=some .cell\/d.names.lookup y.1=some .free):=λy c=>by
  let q:=ib.1 h.2 y c;simp at q;$({q.1.1,λz=>?_,λz=>?_})
  .let w||w:=q.1.2;simp!;$w
  let(w||w)||w:=q.2;simp!
  .$(ι w)
  $(τ w)
 $({by$$$$(h.1),λy c=>(g y c).1,λy c=>(g y c).2.1,λy c=>(g y c).2.2})
def Jr (f:X.N.findIdx? (·==x)=ac i)(j:cw X.env.scope x)(k:ma (.Name x c::es) X.env=(false,eval (.Name x c) X.env)::ma es X.env)(hd:bM x)(d:cT x)(h:DA X es g):lu X (.Name x c::es) 0 i g:=U3 i (d6 f) j h k hd d
theorem S9{e:fA}{es:List fA}{f:DF}{g:AF}{j i:Nat}(c:bI X e es)(d:DD X e f)(h:lu X es j i g):lu X (e::es) (j+1) i (dm f g):=SS d h c
def Ry (c:bI X e es)(d:DD X e f)(h:DA X es g):DA X (e::es) (dm f g):=Sr d h c
def IT (d:(pl (e::es) X.env).map (·.2)=aay e X.env::(pl es X.env).map (·.2))(f:DG X e g)(h:mx X es c):mx X (e::es) (Cd g c):=PY f h d
def Pj (d:abu [c] e pos.line X.env=pure false)(hw:abv [c] e X.env=pure al)(i:(pl [c] X.env).map (·.2)=[aay c X.env])(h:DD X e f)(j:DG X c g):cH X (.Assign [c] e pos) (qf g f):=KC h j d hw i
def M6 (k:X.N.findIdx? (·==x)=ac i)(l:cw X.env.scope x)(m:X.A.units+1<r0)(hd:bM x)(j:cT x)(n:um e (ac<|.Subscript (.Name x d) c pt) pos.line X.env=pure false)(h:DD X e f)(o:DD X c g):cH X (.Assign [.Subscript (.Name x d) c pt] e pos) (zr i g f):=JF i m (d6 k) l h o hd j n
def KL (d:acf (hJ X.prog X.w) X.A X.env X.xe)(f:X.calm=bd)(h:∀x,pw iter X.env x=pure x)(hi:dv X c iter fi)(i:DG X c g)(j:cY X body fb):cH X (.For c iter body [] pos) (pJ fi g fb):=Tz d f hi i j h
def Pe (d:Gl X "range")(g:X.mg "range"=al)(i:ma [a] X.env=[(false,eval a X.env)])(h:DA X [a] f):dv X c (.Call (.Name "range" p) [a] [] pos) (qV f):=OU d g h i
def SG{e:fA}{f:DF}{l h:OF}{lo hi:Option fA}{c:q7}(d:DD X e f)(g:DO X lo l)(hh:DO X hi h):DE X (.Subscript e (.Slice lo hi al c) pos) (iD f l h):=Cn d g hh
def Ve (c:∀whole,aej a X.env whole=(do let v <-whole;ads a.pos;aap [v] (truthy v)))(h:DD X a f):DT X a (m9 f):=Mn h c
def eP:Dat->Dat->Option Res
 |.int i,.int j=>ac (.D<|.bl<|am<|i<=j)
 |.str i,.str j=>ac (.D<|.bl<|!am (j.cps.toList<i.cps.toList))
 |_,_=>al
def Cu:R2:=λx y H Q=>hZ (λi j=>.bl<|am<|i<=j) x y H Q\/(λx y H Q=>∃i j,x=.str i/\y=.str j/\Q (.bl<|!am (j.cps.toList<i.cps.toList)) H) x y H Q
theorem rG:aV X (j' .LtE) Cu:=aV.or (wb λ_ _ _ _ _ _ _ q=>le_int q) (by ext pins s σ H x y v u Q I rx c h;let(i,j,rfl,rfl,q):=h;let(t,rfl):=rx;let(t',rfl):=c;$(PySem.P.le_str {.bl _,H,I,ρ,q}))
def rY:ff X Cu eP:=by
 ext H0 ps Z σ H c x y d d' o Q e S rx f k;delta eP at e;$$$$$e
 .$$$e;$$rx;$$f;$(ι {_,_,ρ,ρ,k _ H c S (af.refl _) ρ})
 .$$$$$$e;$$rx;$$f;$(τ {_,_,ρ,ρ,k _ H c S (af.refl _) ρ})
 $(nO e)
abbrev Bt:Dat->Dat->Option Res:=eI (λ_ _=>true) λi j=>.bl<|am<|i<j
def jk(o1 o2:Dat->Dat->Option Res)(f g h:DF):DF:=λZ=>(f Z).bind λx=>(g x.2).bind λy=>match o1 x.1 y.1 with
 |some (.D<|.bl true)=>(h y.2).bind λz=>(match o2 y.1 z.1 with|some (.D<|.bl b)=>ac (.bl b,z.2)|_=>al)
 |some (.D<|.bl false)=>ac (.bl false,y.2)
 |_=>al
def BB (F:aV X (j' s) D)(q:ff X D o1)(G:aV X (j' t) E)(I:ff X E o2)(V:DD X a f)(W:DD X b g)(Y:DD X c h)(hm:abK [s,t] [b,c]=bi):DD X (.Compare a [s,t] [b,c] pos) (jk o1 o2 f g h):=by
 let(ta,pa,qa):=V;let(tb,pb,qb):=W;let(tc,pc,qc):=Y;$({_,Oj F G pa pb pc hm,λj ps Z l H Hi d Z' Q i S k=>?_});let(x,Z1,e1,i):=oB i;let(y,Z2,e2,i):=oB i;$(qa j ps Z l H Hi x Z1 _ e1 S λJ H1 L S1 M rx=>?_);$(qb j ps Z1 l H1 L y Z2 _ e2 S1 λu N r O o w=>?_);$$$$$i
 .ext1 A;$(q j ps Z2 l N r J u x y _ _ A O (Rep.mono o rx) w λv B m C p n=>?_);$$n;$({true,ρ,?_});let(z,Z3,e3,i):=oB i;$(qc j ps Z2 l B m z Z3 _ e3 C λzv H4 P S4 R rz=>?_);$$$$$i
  .ext1 b T;let(rfl,rfl):=sP i;$(I j ps _ l H4 P u zv y z _ Q T S4 (Rep.mono (p.trans R) w) rz λv H5 U S5 s5 n=>k v H5 U S5 ((((M.trans o).trans p).trans R).trans s5) n)
  $(nO i)
 .ext1 A;let(rfl,rfl):=sP i;$(q j ps _ l N r J u x y _ _ A O (Rep.mono o rx) w λv B m C p n=>?_);$$n;$({false,ρ,?_});rw[if_neg ⋯];$(k _ B m C ((M.trans o).trans p) ρ)
 $(nO i)
def KZ (d:abK [.LtE,.LtE] [b,c]=bi)(i:DD X a f)(j:DD X b g)(k:DD X c h):DD X (.Compare a [.LtE,.LtE] [b,c] pos) (jk eP eP f g h):=BB rG rY rG rY i j k d
def Qa (c:Gl X "isinstance")(d:X.mg "isinstance"=al)(g:Gl X "int")(h:X.mg "int"=al)(i:bI X e [.Name "int" q])(j:DD X e f):DD X (.Call (.Name "isinstance" p) [e,.Name "int" q] [] pos) (jo "int" f):=sy j c d g h (by decide +kernel) ⋯ ⋯ i
def P8 (c:Gl X "isinstance")(d:X.mg "isinstance"=al)(g:Gl X "bool")(h:X.mg "bool"=al)(i:bI X e [.Name "bool" q])(j:DD X e f):DD X (.Call (.Name "isinstance" p) [e,.Name "bool" q] [] pos) (jo "bool" f):=sy j c d g h (by decide +kernel) ⋯ ρ i
def UA (c:Gl X "isinstance")(d:X.mg "isinstance"=al)(g:Gl X "str")(h:X.mg "str"=al)(i:bI X e [.Name "str" q])(j:DD X e f):DD X (.Call (.Name "isinstance" p) [e,.Name "str" q] [] pos) (jo "str" f):=sy j c d g h (by decide +kernel) ⋯ ρ i
def IX (c:Gl X "isinstance")(d:X.mg "isinstance"=al)(g:Gl X "tuple")(h:X.mg "tuple"=al)(i:bI X e [.Name "tuple" q])(j:DD X e f):DD X (.Call (.Name "isinstance" p) [e,.Name "tuple" q] [] pos) (jo "tuple" f):=sy j c d g h (by decide +kernel) ⋯ ρ i
def P0 (c:Gl X "isinstance")(d:X.mg "isinstance"=al)(g:Gl X "list")(h:X.mg "list"=al)(i:bI X e [.Name "list" q])(j:DD X e f):DD X (.Call (.Name "isinstance" p) [e,.Name "list" q] [] pos) (jo "list" f):=sy j c d g h (by decide +kernel) ⋯ ρ i
def sI(o1 o2:Dat->Dat->Option Res)(f g h:DF):BF:=λZ=>(jk o1 o2 f g h Z).bind λp=>match p.1 with
 |.bl b=>ac (b,p.2)
 |_=>al
theorem MX (d:abK [.LtE,.LtE] [b,c]=bi)(i:DD X a f)(j:DD X b g)(k:DD X c h):DT X (.Compare a [.LtE,.LtE] [b,c] pos) (sI eP eP f g h):=(λG r I J W Y hc hm=>by
  let(ta,pa,qa):=W;let(tb,pb,qb):=Y;let(tc,pc,qc):=hc;$({_,ME G I pa pb pc hm,λl ps Z j H Hi d Z' Q m S k=>?_});let(dd,Z0,i,m):=oB m;dsimp at m;cases dd with
  |bl b0 =>
   let(rfl,rfl):=sP m;let(x,Z1,e1,i):=oB i;let(y,Z2,e2,i):=oB i;dsimp at i;$(qa l ps Z j H Hi x Z1 _ e1 S λL H1 M S1 N rx=>?_);$(qb l ps Z1 j H1 M y Z2 _ e2 S1 λB O s P p C=>?_);$$$$$i
   .ext1 D;$(r l ps Z2 j O s L B x y _ _ D P (Rep.mono p rx) C λv E n F q o=>?_);$$o;$({true,ρ,?_});let(z,Z3,e3,i):=oB i;dsimp at i;$(qc l ps Z2 j E n z Z3 _ e3 F λzv H4 R S4 T rz=>?_);$$$$$i
    .ext1 b U;$$$i;$(J l ps _ j H4 R B zv y z _ _ U S4 (Rep.mono (q.trans T) C) rz λv H5 V S5 s5 o=>{_,o,k H5 V S5<|(((N.trans p).trans q).trans T).trans s5})
    $(nO i)
   .ext1 D;$$$i;$(r l ps _ j O s L B x y _ _ D P (Rep.mono p rx) C λv E n F q o=>?_);$$o;$({false,ρ,?_});rw[if_neg ⋯];$({_,ρ,k E n F<|(N.trans p).trans q})
   $(nO i)
  |_=>$(nO m)) rG rY rG rY i j k d
end
def Dx:List ew->Bool
 |[]=>true
 |x::r=>!(r.any (·==x))&&Dx r
theorem xD:∀{l:List ew},Dx l=bd->l.Nodup
 |[],_=>D0
 |x::r,h=>by let h:=hG.1 h;$(iN.2 {λm=>?_,xD h.2});let:r.any (·==x)=bd:=ll.2 {x,m,⋯};simp!
section
open PySem.W
inductive Comes {α:Type}(lt:Nat->Nat->Bool) (ok:Nat->Nat->Prop):KasT α->α->Prop
 |ret (a:α):Comes lt ok (.ret a) a
 |ask {i j:Nat}{k:Bool->KasT α}{a:α}(h:ok i j) (r:Comes lt ok (k<|lt i j) a):Comes lt ok (.ask i j k) a
theorem Comes.bind (c:Comes lt ok t a)(q:Comes lt ok (f a) b):Comes lt ok (t.bind f) b:=by
 induction c with
 |ret a=>$q
 |ask h _ g=>$(.ask h<|g q)
section
variable{lt:Nat->Nat->Bool}{n:Nat}
structure Ord (lt:Nat->Nat->Bool) (n:Nat):Prop where
 trans:∀i j k,lt i j=bd->lt j k=bd->lt i k=bd
 total:∀i j,i<n->j<n->i≠j->lt i j=bd\/lt j i=bd
 fB:∀i,lt i i=bi
abbrev okN(n:Nat):Nat->Nat->Prop:=λi j=>i<n/\j<n/\i≠j
structure dj (p:Array Nat) (n:Nat):Prop where
 size:p.size=n
 lt:∀i,i<n->p.getD i 0<n
 inj:∀i j,i<n->j<n->p.getD i 0=p.getD j 0->i=j
 pm:p.toList.Perm (lb n)
def vV{p q:Array Nat}{i j:Nat}(h:p[i]?=q[j]?):p.getD i 0=q.getD j 0:=by simp[h]
def dj.ok (P:dj p n)(hi:i<n)(a:j<n)(h:i≠j):okN n (p.getD i 0) (p.getD j 0):={P.lt i hi,P.lt j a,λz=>h<|P.inj i j hi a z}
def fx(lt:Nat->Nat->Bool)(p:Array Nat)(m:Nat):Prop:=∀i j,i<j->j<m->lt (p.getD i 0) (p.getD j 0)=bd
def Down(lt:Nat->Nat->Bool)(p:Array Nat)(m:Nat):Prop:=∀i j,i<j->j<m->lt (p.getD j 0) (p.getD i 0)=bd
def fx.succ (O:Ord lt n)(P:dj p n)(h:fx lt p m)(b:m<n)(h1:1<=m)(d:lt (p.getD m 0) (p.getD (m-1) 0)=bi):fx lt p (m+1):=by
 ext i j c hj;ext(z:j<m)
 .exact h i j c z
 let z:j=m:=by lia
 subst z;let a:lt (p.getD (j-1) 0) (p.getD j 0)=bd:=by
  rcases O.total _ _ (P.lt j b) (P.lt (j-1) ∅) (λz=>by let:=P.inj j (j-1) b ∅ z;$_)with q|q
  .rw[d]at q;lk
  exact q
 ext(e:i=j-1)
 .rwa[e]
 exact O.trans _ _ _ (h i (j-1) ∅ ∅) a
def Down.succ (O:Ord lt n)(h:Down lt p m)(h1:1<=m)(a:lt (p.getD m 0) (p.getD (m-1) 0)=bd):Down lt p (m+1):=by
 ext i j b hj;ext(z:j<m)
 .exact h i j b z
 let z:j=m:=by lia
 subst z;ext(c:i=j-1)
 .rwa[c]
 exact O.trans _ _ _ a<|h i (j-1) ∅ ∅
theorem zk (O:Ord lt n)(P:dj p n):∀(f m:Nat),1<=m->m+f<=n->fx lt p m->∃r,Comes lt (okN n) (kas_asc p f m) r/\m<=r/\r<=m+f/\fx lt p r/\(r<m+f->lt (p.getD r 0) (p.getD (r-1) 0)=bd)
 |0,m,j,k,g=>{m,.ret m,eS _,eS _,g,λh=>by lia}
 | f+1,m,j,k,g=>by
  let aj:okN n (p.getD m 0) (p.getD (m-1) 0):=P.ok ⋯ ⋯ ∅;cases i:lt (p.getD m 0) (p.getD (m-1) 0)with
  |true=>$({m,.ask aj ?_,eS _,⋯,g,λ_=>i});rw[i];$(.ret m)
  |false=>let(r,a,b,c,d,e):=zk O P f (m+1) ⋯ ⋯ (g.succ O P ⋯ j i);$({r,.ask aj ?_,⋯,⋯,d,λh=>e ⋯});rwa[i]
theorem Ii (O:Ord lt n)(P:dj p n):∀(f m:Nat),1<=m->m+f<=n->Down lt p m->∃r,Comes lt (okN n) (kas_desc f p m 0) (p,r,0)/\m<=r/\r<=m+f/\Down lt p r
 |0,m,h,i,e=>{m,.ret _,eS _,eS _,e}
 | f+1,m,h,i,e=>by
  let aj:okN n (p.getD m 0) (p.getD (m-1) 0):=P.ok ⋯ ⋯ ∅;cases g:lt (p.getD m 0) (p.getD (m-1) 0)with
  |true=>let(r,a,b,c,d):=Ii O P f (m+1) ⋯ ⋯ (e.succ O h g);$({r,.ask aj ?_,⋯,⋯,d});rwa[g]
  |false =>
   $({m,.ask aj ?_,eS _,⋯,e});rw[g];let j:lt (p.getD (m-1) 0) (p.getD m 0)=bd:=by
    let q||q:=O.total _ _ aj.1 aj.2.1 aj.2.2
    .rw[g]at q;lk
    $q
   $(.ask {aj.2.1,aj.1,λz=>aj.2.2 z.symm} ?_);rw[j];$(.ret _)
theorem dj.perm{p q:Array Nat}(P:dj p n)(g:q.Perm p)(h:q.size=p.size)(f:Nat->Nat)(a:∀i,i<n->f i<n/\q.getD i 0=p.getD (f i) 0)(hi:∀i j,i<n->j<n->f i=f j->i=j):dj q n:=by
 $({h.trans P.size,λi d=>?_,λi j b c e=>?_,?_})
 .rw[(a i d).2];$(P.lt _ (a i d).1)
 .rw[(a i b).2,(a j c).2]at e;$(hi i j b c<|P.inj _ _ (a i b).1 (a j c).1 e)
 $((acU.1 g).trans P.pm)
def zN (a:m<=p.size)(k):(acP p 0 m).getD k 0=if k<m then p.getD (m-1-k) 0 else p.getD k 0:=by let h:=getElem?_mirror_all (i:=0) a k;$$(acP);split;simp!;ext1 b;rw[if_neg (λz=>b z.2)]at h;$(vV h)
def Kl (P:dj p n)(a:m<=n):dj (acP p 0 m) n:=by
 $(P.perm (by$$(acP);$(mirror_perm _ _ _ _)) (by simp[acP,mirror_size]) (λk=>if k<m then m-1-k else k) (λi hi=>{by(try dsimp);split<;>$_,?_}) λi j hi hj e=>?_)
 .rw[zN (by rw[P.size];$a)]
  (try dsimp)
  split<;>rfl
 grind
def R7 (P:dj p n)(a:m<=n)(h:Down lt p m):fx lt (acP p 0 m) m:=by ext i j hij b;rw[zN (by rw[P.size];$a),zN (by rw[P.size];$a),if_pos ⋯,if_pos b];$(h _ _ ⋯ ⋯)
theorem Av (O:Ord lt n)(P:dj p n)(o:k<n)(g:fx lt p k):∀(f l r:Nat),l<=r->r<=k->r-l<=f->(∀i,i<l->lt (p.getD i 0) (p.getD k 0)=bd)->(∀i,r<=i->i<k->lt (p.getD k 0) (p.getD i 0)=bd) ->
  ∃m,Comes lt (okN n) (kas_place p k f l r) m/\m<=k/\(∀i,i<m->lt (p.getD i 0) (p.getD k 0)=bd)/\(∀i,m<=i->i<k->lt (p.getD k 0) (p.getD i 0)=bd)
 |0,l,r,u,s,v,a,b=>{l,.ret l,by lia,a,λi hi=>b i (by lia)}
 | f+1,l,r,u,s,v,a,b=>by
  dsimp[kas_place];ext(h:l ≥ r)
  .rw[if_pos h];$({l,.ret l,by lia,a,λi hi=>b i (by lia)})
  rw[if_neg h];let w:(l+r)/2<r/\l<=(l+r)/2:=⋯;let aj:okN n (p.getD k 0) (p.getD ((l+r)/2) 0):=P.ok o ⋯ ∅;cases e:lt (p.getD k 0) (p.getD ((l+r)/2) 0)with
  |true =>
   let(m,c,d):=Av O P o g f l ((l+r)/2) w.2 (by lia) ∅ a (λi hi t=>by
    ext(z:i=(l+r)/2)
    .rwa[z]
    exact O.trans _ _ _ e<|g _ _ ⋯ t)
   refine{m,.ask aj ?_,d};rwa[e]
  |false =>
   let j:lt (p.getD ((l+r)/2) 0) (p.getD k 0)=bd:=by
    let q||q:=O.total _ _ aj.1 aj.2.1 aj.2.2
    .rw[e]at q;lk
    exact q
   let(m,c,d):=Av O P o g f ((l+r)/2+1) r (by lia) s ∅ (λi hi=>by
    ext(z:i=(l+r)/2)
    .rwa[z]
    exact O.trans _ _ _ (g i ((l+r)/2) ⋯ (by lia)) j) b
   refine{m,.ask aj ?_,d};rwa[e]
def II (b:k<p.size)(hl:l<=k)(i):(bubble p k<|k-l).getD i 0=if i=l then p.getD k 0 else if l<i/\i<=k then p.getD (i-1) 0 else p.getD i 0:=by
 let h:=getElem?_bubble b (k-l) ⋯ i;let e:k-(k-l)=l:=⋯;rw[e]at h;ext(z:i=l)
 .rw[if_pos z]at h ⊢;$(vV h)
 rw[if_neg z]at h ⊢;ext(a:l<i/\i<=k)
 .rw[if_pos a]at h ⊢;$(vV h)
 rw[if_neg a]at h ⊢;$(vV h)
theorem EX(O:Ord lt n):∀(f:Nat) (p:Array Nat) (k:Nat),dj p n->k+f=n->fx lt p k->∃q,Comes lt (okN n) (kas_bin f p k) q/\dj q n/\fx lt q n
 |0,p,k,P,m,g=>{p,.ret p,P,by rw[<-m];$g}
 | f+1,p,k,P,m,g=>by
  let(l,c,s,a,b):=Av O P (by lia) g k 0 k (rp _) (eS _) (by lia) (λi hi=>by lia)<|λi hi hik=>by$_
  let h:=II (p:=p) (k:=k) (l:=l) (by rw[P.size];$_) s;let t:dj (bubble p k<|k-l) n:=by
   $(P.perm (bubble_perm _ _ _) (bubble_size _ _ _) (λi=>if i=l then k else if l<i/\i<=k then i-1 else i) (λi hi=>{by(try dsimp);split<;>(try split)<;>$_,?_}) λi j hi u e=>?_)
   .rw[h]
    (try dsimp)
    split
    .rfl
    split<;>rfl
   (try dsimp at e)
   $$$$$e<;>$$$$$e<;>(try $$$$$e)<;>(try $$$$$e)<;>lia
  let o:fx lt (bubble p k<|k-l) (k+1):=by
   ext i j r u;simp?[h i,h j];split
   .rw[if_neg ∅,if_pos ∅];$(b (j-1) (by lia) (by lia))
   split
   .rw[if_neg ∅,if_pos ∅];$(g _ _ ∅ ∅)
   split
   .$(a i ∅)
   split
   .$(g _ _ (by lia) ∅)
   $(g _ _ r (by lia))
  let(q,d,e):=EX O f (bubble p k<|k-l) (k+1) t (by lia) o;$({q,Comes.bind c d,e})
def Iv:dj (abr<|lb n) n:=by
 let g:∀i,i<n->(abr<|lb n).getD i 0=i:=λi hi=>by simp[hi]
 refine{⋯,λi hi=>by rw[g i hi];$hi,λi j hi a e=>by simp?[g i hi,g j a]at e;$e,⋯}
def IP(O:Ord lt n)(hn:1<=n):∃q,Comes lt (okN n) (afB n) q/\dj q n/\fx lt q n:=by
 let P:=Iv (n:=n);$$(afB);let(m,a,b,c,d,e):=zk O P (n-1) 1 (eS _) ∅<|λi j l u=>by$_
 let h:∀(p:Array Nat) (m:Nat),dj p n->1<=m->m<=n->fx lt p m->∃q,Comes lt (okN n) (if m<n then kas_bin (n-max m 1) p (max m 1)else .ret p) q/\dj q n/\fx lt q n:=λp m P f g hu=>by split;simp![EX];$({p,.ret p,P,by grind})
 ext(k:m=n)
 .let(q,f,g):=h _ m P b (by lia) d;$({q,Comes.bind (a:=(m,abr<|lb n)) (Comes.bind a ?_) f,g});rw[if_pos (by$$$$k)];$(.ret _)
 ext(o:m>1)
 .let(q,f,g):=h _ m P b (by lia) d;$({q,Comes.bind (a:=(m,abr<|lb n)) (Comes.bind a ?_) f,g});rw[if_neg (by$$$$k),if_pos o];$(.ask (P.ok (by lia) ∅ ∅) ?_);rw[d 0 (m-1) ∅ ∅];$(.ret _)
 let v:m=1:=by lia
 subst v;let w:=e (by lia)
 let(r,x,b1,c1,y):=Ii O P (n-2) 2 (by lia) (by lia) (λi j l u=>by
  let f:i=0:=by lia
  let g:j=1:=by lia
  rw[f,g];$w)
 let s:=Kl (m:=r) P ∅;let(t,z,b2,c2,A,_):=zk O s (n-r) r (by lia) (by lia)<|R7 P ∅ y;let(q,f,g):=h _ t s (by lia) (by lia) A;$({q,Comes.bind (a:=(t,acP (abr<|lb n) 0 r)) (Comes.bind a ?_) f,g});rw[if_neg (by$$$$k),if_neg ∅];$$(kas_descPart);apply Comes.bind x;rw[if_neg ⋯];$(Comes.bind z<|.ret _)
end
end
section
open PySem.W
theorem Comes.wp (e:∀i j,ok i j->∀C:Bool->dq->Prop,C (lt i j) s->b i j C s)(c:Comes lt ok t a)(q:Q a s):t.kasWp b Q s:=by
 induction c with
 |ret a=>$q
 |ask h _ f=>$(e _ _ h _<|f q)
end
def fG(h:k7)(L:cA):Heap:={h with objs:=h.objs.extract 0 L}
def PV (xs:Array a)(L b:Nat):(xs.extract 0 L)[b]?=if b<L then xs[b]? else al:=by grind
def DB(h)(L b):(fG h L).get? b=if b<L then h.get? b else al:=by delta fG Heap.get?;rw[PV];ext(a:b<L);simp!;rw[if_neg a,if_neg a]
def ED (e:(fG h L).get? b=ac o):b<L/\h.get? b=ac o:=by simp![DB]
section
variable{X:Cx}{pins:List (cA×ua)}{σ:St}{H:Hp}{s:dq}{pos:q7}{e:fA}
def Inv.Gm (I:Inv X pins σ H s)(a:s.heap.Ns X.env.locals m):Fr (fG s.heap X.env.locals) X.env.locals s.heap m :=
 {a,λb o e=>(ED e).2,by show(s.heap.objs.extract 0 X.env.locals).size<=_;simp[Nat.min_le_left]}
def Inv.VJ (I:Inv X pins σ H s)(j:∀(i:Nat) (x:ew) (v:V),X.N[i]?=ac x->σ[i]?=ac (ac v)->cw X.env.scope x->∃u,RelV v u/\Look X.env s.heap m x u)(t:h'.Ns X.env.locals m)(keep:∀b o,b≠X.env.locals->s.heap.get? b=ac o->h'.get? b=ac o):Inv X pins σ H {s with heap:=h',toks:=tk}:=by
 let jJ:=I.jJ;let f:∀b o,X.di.heap.get? b=ac o->b≠X.env.locals:=λb o e=>gk<|hQ (e7 e) I.ok.above;let a:∀x c,X.env.cells.lookup x=ac c->∀v,s.heap.IsCell c v->h'.IsCell c v:=λx c e v ⟨o,w,hd⟩=>{o,keep c o (jJ x c e) w,hd};$({I.ok,I.os,I.bare,{λb o e n g hx=>keep b o (f b o e)<|I.base.keep b o e n g hx,λb o e n g hx=>?_,I.base.free,λb o e hx=>?_,I.base.iV,I.base.ig,I.base.iq},{m,t,λi x v y A B=>?_},λx c e=>?_,I.free,I.fV,λp C=>?_,?_,I.len})
 .let(D,q):=I.base.slot b o e n g hx;$({D,keep b _ (f b o e) q})
 .let(h,q):=I.base.there b o e hx;$({h,keep b h (f b o e) q})
 .let(u,r,l):=j i x v y A B;$({u,r,?_});let l||(k,c,e,z):=l
  .$(ι l)
  $(τ {k,c,e,a x c e _ z})
 .let(v,z):=I.cell x c e;$({v,a x c e v z})
 .let(e,n,ne,nf,d):=I.pin p C;$({keep p.1 p.2 ne e,n,ne,nf,d})
 $(I.aj.tracked λb u g e=>keep b u (λz=>g<|z ▸ I.free) e)
theorem AO (F:Fr (fG h L) L h' m)(N:News (fG h L) L h' a)(sub:∀q∈mX (fG h L) h L,q∈a):∀b o,b≠L->h.get? b=ac o->h'.get? b=ac o:=λb o d e=>by
 ext(c:b<L)
 .$(F.keep b o<|(λhb e=>by simp![DB]) c e)
 let f:(fG h L).get? b=al:=by
  cases q:(fG h L).get? b with
  |none=>rfl
  |some u=>$(absurd (ED q).1 c)
 $((N _<|sub _<|xh d f e).1)
def Jz{prog:hE}{w:iR}{A:nL}{E:bt->dq->Prop}{s:dq}{a:cA}{vs:List bt}{n:Nat}{P:Fin->dq->Prop}(f:s.heap.get? a=ac (aaz "list" vs.toArray n))(q:vs.length<2)
 (h:∀h' c,h'.get? a=ac (aaz "list" vs.toArray c)->(∀b o,b≠a->s.heap.get? b=ac o->h'.get? b=ac o)->P (.done<|.ret .none) {s with heap:=h'}) :
  gW (hJ prog w) A (aaZ.«list.sort» {[.ref a],[]}) P E s:=by
 rw[list_sort_plain];let l:=e7 f;$(cn<|listItems_at f ρ ?_);$(cn<|agn f ρ ?_);obtain⟨k,j⟩:∃k,(s.heap.update a (aaJ λ_=>#[])).get? a=ac (aaz "list" #[] k) :=
  {_,afZ f<|λ_=>#[]}
 refine cn<|seqEpoch_at j ρ<|cn<|wpAny_newTuple (cn<|adT<|pA ?_) (by rw[vi];simp;$_);generalize m:(((s.heap.update a (aaJ λ_=>#[])).push (aaz "tuple" vs.toArray 0)).push (aaz "list" #[] 0))=g at *;let d:g.get? a=ac (aaz "list" #[] k):=by
  rw[<-m,aeq _ _ _ (by rw[size_push',acx];$(gk<|aaB l)),
   aeq _ _ _ (by rw[acx];$(gk l))]
  exact j
 let kp:∀b o,b≠a->s.heap.get? b=ac o->g.get? b=ac o:=λb o i e=>by rw[<-m];$(eJ _<|eJ _ ?_);rw[P2 _ _ (Ne.symm i)];$e
 dsimp;let p:vs.toArray.size<2:=by$$$$q
 rw[if_pos p,if_pos p];$(cn<|fj ?_);$(cn<|fj ?_);dsimp;$(cn<|seqEpoch_at d ρ<|cn<|agn d ρ ?_ (hsz2:=by simp[aeQ,afr];rw[vi];$_));simp?[bne_self_eq_false,qp];$(fj ?_);let r:Array.map (λx=>x.2) (aeQ<|afr general' (vs.toArray.zip vs.toArray) #[] 7 al)=vs.toArray:=by rw[List.zip_toArray,List.map_toArray,acz<|eS _]
 rw[r];$(h _ _ (afZ d<|λ_=>vs.toArray) λb o i e=>?_);rw[P2 _ _ (Ne.symm i)];$(kp b o i e)
def Inv.xR (I:Inv X pins σ H s)(g:∀(i:Nat) (x:ew) (v:V),X.N[i]?=ac x->σ[i]?=ac (ac v)->cw X.env.scope x->∃u,RelV v u/\Look X.env s.heap m x u)(h:h'.Ns X.env.locals m)(keep:∀b o,b≠X.env.locals->s.heap.get? b=ac o->h'.get? b=ac o)(j:s.heap.get? D=al)(hex:∀b∈X.ex,∃o,s.heap.get? b=ac o)(new:cN X.prog X.w (upd H D o) h' D o):Inv X pins σ (upd H D o) {s with heap:=h',toks:=tk}:=by
 let J:Inv X pins σ H {s with heap:=h',toks:=tk}:=I.VJ g h keep;let hHD:=I.aj.dead j;let ne:∀b u,H b=ac u->b≠D:=by lia
 let k:X.env.locals≠D:=λz=>by let(_,(oL,_,_,hoL,_),_):=I.loc;simp!
 refine{J.ok,J.os,J.bare,{J.base.keep,J.base.slot,λb a e n hx=>?_,J.base.there,λb xs e=>?_,λb a u e=>?_,λb ps e=>?_},J.loc,J.cell,?_,λx c e=>?_,λp f=>?_,λb u e=>?_,J.len}
 .let z:b≠D:=λz=>by let(o',q):=I.base.there b a e hx;simp!
  rw[aA z];$(J.base.free b a e n hx)
 .let q:=J.base.iV b xs e;rwa[aA (ne b _ q)]
 .let q:=J.base.ig b a u e;rwa[aA (ne b _ q)]
 .let(more,q):=J.base.iq b ps e;$({more,by rw[aA (ne b _ q)];$q})
 .rw[aA k];$J.free
 .let(v,oc,ho,hd):=I.cell x c e;rw[aA (λz=>by simp!)];$(J.fV x c e)
 .let(q,n,nl,nf,d):=J.pin p f;let q0:=(I.pin p f).1;$({q,by rw[aA (λz=>by simp!)];$n,nl,nf,d})
 ext(z:b=D)
 .subst z;rw[bw]at e;$$$$$$e;$new
 rw[aA z]at e;$((J.aj b u e).hX (λc w' hc q=>q) (λc q=>by rw[aA (ne c _ q)];$q) λc xs q=>by rw[aA (ne c _ q)];$q)
def gP{a:Type}{l:List a}{i:Nat}{d:a}(h:i<l.length):l.getD i d=l[i]:=by simp?[kq,b8 h];rfl
def nT(fs:List ew)(i j:Nat):Bool:=am<|(fs.getD i ow).cps.toList<(fs.getD j ow).cps.toList
def vM{a b:ew}(h:a.cps.toList=b.cps.toList):a=b:=by obtain⟨⟨a⟩⟩:=a;simp!
def KU (nd:fs.Nodup):Ord (nT fs) fs.length where
 trans:=λi j k c a=>decide_eq_true<|afc (of_decide_eq_true c)<|of_decide_eq_true a
 total:=λi j hi d b=>by
  delta nT;rw[gP hi,gP d];ext(h:fs[i].cps.toList<fs[j].cps.toList)
  .$(ι<|decide_eq_true h)
  $(τ (decide_eq_true ?_));ext(a:fs[j].cps.toList<fs[i].cps.toList)
  .$a
  $(absurd ((He nd).1 (vM<|abi (aag.1 a)<|aag.1 h)) b)
 fB:=λi=>decide_eq_false<|ac3 _
def pI(K:e6)(H:Hp)(vs:List V)(fs:List ew):Prop:=vs.length=fs.length/\∀(i:Nat) (f:ew),fs[i]?=ac f->∃a b,vs[i]?=ac (.ref a)/\bj K H a b/\b[0]?=ac (.str f)
def Ordered(fs:List ew)(vs out:List V):Prop:=∃q:Array Nat,dj q vs.length/\fx (nT fs) q vs.length/\out=q.toList.map λi=>vs.getD i .aP
def vy(K:e6):List V->Hp->VK->Prop:=λxs H Q=>∃p vs fs,xs=[.ref p]/\Rd H p (.L vs)/\pI K H vs fs/\fs.Nodup/\vs.length<64/\∀out,Ordered fs vs out->∀l,H l=al->Q (.ref l) (upd H l<|.L out)
theorem HV (r:aH vs its):∀(l:List Nat),(∀i∈l,i<vs.length)->aH (l.map λi=>vs.getD i .aP) (l.map λi=>its.getD i .none)
 |[],_=>.nil
 | i::l,h=>by
  let hi:=h i eR;let hi':i<its.length:=by rw[<-r.length];$hi
  $(.cons ?_ (HV r l λj a=>h j<|eH _ a));let(u,hu,ru):=r.get<|b8 hi;simp!
def zT (P:dj q n):∀i∈q.toList,i<n:=λi hi=>by
 let(k,b,e):=nS hi;let a:k<q.size:=by$$$$b
 let:=P.lt k (by rw[<-P.size];$a);simp!
theorem kat_tups (I:Inv X pins σ H s):∀{fs:List ew}{vs:List V}{its:List bt},pI X.K H vs fs->aH vs its ->
  ∃c:List bt,ab2 s.heap its c/\c.length=fs.length/\(∀v∈c,∃x t,v=aai x t)/\∀(i:Nat) (f:ew),fs[i]?=ac f->∃a o xs n t,its[i]?=ac (.ref a)/\s.heap.get? a=ac o/\o.data=.seq xs n/\xs[0]?=ac (aai f t)
 | [],[],_,h,r=>by
  $$$r;$({[],.nil,ρ,λv j=>by simp at j,λi f e=>by simp at e})
 |[],_::_,_,h,_=>by simp[pI]at h
 |_::_,[],_,h,_=>by simp[pI]at h
 | f::fs,v::vs,_,h,r=>by
  cases r with
  |cons p rs =>
   let(a,ws,q,w,y):=h.2 0 f ρ;$$$$$$q;$$p;let h':pI X.K H vs fs:=⟨by$$$$(h.1),λi g e=>by
    let(b,A,k,l,B):=h.2 (i+1) g<|e
    $({b,A,by$$$$k,l,B})⟩
   let(c,C,D,E,F):=kat_tups I h' rs;let(its,G,(o,m,J,n,hd),_):=I.tuple w;let(u,L,M):=G.get y;let(t,rfl):=M;let d:its.toArray[0]?=ac (aai f t):=by$$$$L
   $({aai f t::c,.cons m J hd d C,by simp[D],λv j=>?_,λi g e=>?_})
   .let z||z:=dV.1 j
    .$(⟨f,t,z⟩)
    $(E v z)
   cases i with
   |zero=>simp at e;$$e;$({a,o,_,n,t,ρ,m,hd,d})
   |succ i=>let(b,N,xs,O,t',k,l):=F i g<|e;$({b,N,xs,O,t',by$$$$k,l})
theorem KatTups.keeps (k:∀b o xs n,o.data=.seq xs n->h.get? b=ac o->h'.get? b=ac o)(t:ab2 h vs fs):ab2 h' vs fs:=by
 induction vs generalizing fs with
 |nil =>
  cases fs with
  |nil=>$t
  |cons _ _=>$t.elim
 |cons _ _ c =>
  cases fs with
  |nil=>$t.elim
  |cons _ _=>let((a,o,xs,n,e,d,f,hd,r),t):=t;$({{a,o,xs,n,e,k _ _ _ _ hd d,f,hd,r},c t})
def zu(lt:Nat->Nat->Bool)(vs out:List V):Prop:=∃q:Array Nat,dj q vs.length/\fx lt q vs.length/\out=q.toList.map λi=>vs.getD i .aP
theorem Qp(K:X.ex=[])(I:Inv X pins σ H s)(L:aH vs its)(h2:2<=vs.length)(h64:vs.length<64)(O:Ord lt vs.length)(hT:(T==T)=bd)(t:∃a:List bt,ab2 s.heap its a/\a.length=vs.length/\∀v∈a,∀h:k7,W.Looks (hJ X.prog X.w) h (typeOf v) T)(M:∀i j,i<vs.length->j<vs.length->i≠j->∀h':k7,(∀b o xs n,o.data=.seq xs n->s.heap.get? b=ac o->h'.get? b=ac o)->∀C:Bool->dq->Prop,C (lt i j) {s with heap:=h'}->gW (hJ X.prog X.w) X.A.in1.in1 (keyLt' (tuples'<|T != .type "tuple") (its.getD i Value.none)<|its.getD j Value.none) C (λ_ _=>False) {s with heap:=h'})(q:∀out,zu lt vs out->∀l,H l=al->Q (.ref l) (upd H l<|.L out))(hn:s.heap.Ns X.env.locals m)(hl:∀(i:Nat) (x:ew) (v:V),X.N[i]?=ac x->σ[i]?=ac (ac v)->cw X.env.scope x->∃u,RelV v u/\Look X.env s.heap m x u)(P:∀p∈mX (fG s.heap X.env.locals) s.heap X.env.locals,p.1<D)(F:Fr (fG s.heap X.env.locals) X.env.locals h' m)(N:News (fG s.heap X.env.locals) X.env.locals h' ((D,aaz "list" #[] r)::mX (fG s.heap X.env.locals) s.heap X.env.locals))(hR:∀S,EP X pins σ Q (.ref D) S->R S) :
  gW (hJ X.prog X.w) X.A.in1.in1 (keyKind' its.toArray) (λκ s'=>(afB its.length).kasWp (W.kas_ask X.prog X.w X.A.in1.in1 κ its) (λp U=>W.KasFin (fG s.heap X.env.locals) X.env.locals m D r (p.toList.map λi=>its.getD i Value.none) R U) s') (λ_ _=>False) {s with heap:=h'}:=by
 let B:=L.length;let(oL,esL,epL,Y,Z,_):=id hn;let(a,t,kl,ks):=t;let kp:=AO F N λq E=>eH _ E;let d:∀b o xs n,o.data=.seq xs n->s.heap.get? b=ac o->h'.get? b=ac o:=λb o xs n hd G=>kp b o (λz=>by rw[z,Y]at G;$$$$$$G;rw[Z]at hd;lk) G;$(W.kat_kind (KatTups.keeps d t) (by lia) (λv hv=>ks v hv _) hT ?_);let(qa,cq,J,uq):=IP O (by lia);rw[<-B];$(cq.wp (λi j ok C hC=>M i j ok.1 ok.2.1 ok.2.2 h' d C hC) ?_);let f:s.heap.get? D=al:=by
  cases y:s.heap.get? D with
  |none=>rfl
  | some o=>let a1:=N (D,aaz "list" #[] r) eR;$(absurd (P _<|xh a1.2.1 a1.2.2 y)<|p5 _)
 $(W.KasFin.intro F N (.head λp hp=>gk<|P p hp) λV7 c g k=>hR _ ?_);let V8:=AO g k λq E=>eH _ E;$({.ref D,upd H D<|.L (qa.toList.map λi=>vs.getD i .aP),I.xR hl g.ns V8 f (λb hb=>by rw[K]at hb;simp at hb) ?_,ρ,q _ ⟨qa,J,uq,ρ⟩ D<|I.aj.dead f});$({?_,_,c,HV L _<|zT J,(k _ eR).1});rw[a8,sb,J.size,vi];lia
theorem ML{vs:List V}(h:vs.length<2):vs=(lb vs.length).toArray.toList.map λi=>vs.getD i .aP:=by
 cases vs with
 |nil=>rfl
 |cons v vs =>
  cases vs with
  |nil=>rfl
  |cons _ _=>simp at h;$_
theorem BY(t:X.ex=[])(I:Inv X pins σ H s)(rd:Rd H p (.L vs))(u:vs.length<64)(O:Ord lt vs.length)(Z:(T==T)=bd)(kt:∀its,aH vs its->∃k:List bt,ab2 s.heap its k/\k.length=vs.length/\∀v∈k,∀h:k7,W.Looks (hJ X.prog X.w) h (typeOf v) T)(B:∀its,aH vs its->∀i j,i<vs.length->j<vs.length->i≠j->∀h':k7,(∀b o xs n,o.data=.seq xs n->s.heap.get? b=ac o->h'.get? b=ac o)->∀C:Bool->dq->Prop,C (lt i j) {s with heap:=h'}->gW (hJ X.prog X.w) X.A.in1.in1 (keyLt' (tuples'<|T != .type "tuple") (its.getD i Value.none)<|its.getD j Value.none) C (λ_ _=>False) {s with heap:=h'})(q:∀out,zu lt vs out->∀l,H l=al->Q (.ref l) (upd H l<|.L out)):gW (hJ X.prog X.w) X.A (call (.builtin "sorted") [.ref p]) (EP X pins σ Q) X.xe s:=by
 let(z,its,n,d,e):=rd.ok I.aj;let hlen:=d.length;let E:s.heap.IsList p its.toArray:={_,e,ρ,n,ρ};let(m,r,F):=I.loc;let G:=r;let(oL,J,K,f,L,_):=G;ext(h2:2<=its.length)
 .$(W.kat_sorted (I.Gm r) HJ E h2 ∅ λD e1 h' F' N' M=>Qp t I d ∅ u O Z (kt its d) (B its d) q r F M F' N' λ_ x=>x)
 $(aa8 kind_sorted plain_sorted entry_sorted (args_sorted1 _) ?_);$$(aaZ.«sorted»);$(cn (m:=checkCount "sorted" 1 1 _)<|fj<|cn<|collect_list E (cn<|adT ?_ (by rw[vi];$_)) (by rw[vi];$_));generalize N:((s.heap.push<|aaz "list" #[] 0).update s.heap.objs.size (aaJ (· ++ its.toArray)))=g;let P:g.objs.size=s.heap.objs.size+1:=by rw[<-N,acx,size_push']
 let R:∀b o,s.heap.get? b=ac o->(g.push<|aaz "list" its.toArray 0).get? b=ac o:=λb o q=>by let lt:=e7 q;$(eJ _ ?_);rw[<-N,P2 _ _<|aby lt];$(eJ _ q)
 let S:(g.push<|aaz "list" its.toArray 0).get? g.objs.size=ac (aaz "list" its.toArray 0):=g8 _ ρ;$(cn<|pA<|ub adI ⟨_,S,ρ⟩ adn (Jz (s:={s with heap:=g.push (aaz "list" its.toArray 0)}) S ∅ λh' c hD kp=>⟨_,ρ,fj ⟨_,ρ,?_⟩⟩)<|adJ _);let a:s.heap.get? g.objs.size=al:=by
  cases y:s.heap.get? g.objs.size with
  |none=>rfl
  |some o=>let:=e7 y;rw[P]at this;$(absurd this<|Nat.not_lt.2<|abf _)
 let U:∀b o,b≠X.env.locals->s.heap.get? b=ac o->h'.get? b=ac o:=λb o _ q=>kp b o (λz=>by rw[z,a]at q;$(nO q))<|R b o q;let Y:h'.Ns X.env.locals m:={oL,J,K,kp _ _ (λz=>by rw[z,a]at f;$(nO f))<|R _ _ f,L,by assumption};let one:zu lt vs vs:=by$({(lb vs.length).toArray,Iv,λi j hij hj=>by$_,?_});$(ML ∅)
 refine{.ref g.objs.size,upd H g.objs.size<|.L vs,I.xR (tk:=s.toks) F Y U a (by simp!) ⟨z,its,c,d,hD⟩,ρ,q vs one _<|I.aj.dead a}
theorem F9(B:X.ex=[]):bP X (.builtin "sorted") (vy X.K):=by
 ext pins s σ H xs us Q I r h;let(p,vs,fs,rfl,rd,c,nd,D,q):=h;let(u,rfl,M):=r.one;$$M;$(BY B (T:=.type "str") I rd D (by rw[c.1];$(KU nd)) ρ (λits y=>?_) (λits y i j hi A E h' n C N=>?_) q)
 .let(O,P,R,S,_):=kat_tups I c y;$({O,P,by rw[R];$(c.1.symm),λv U h=>?_});let(x,t,rfl):=S v U;$(ad8 ρ)
 let(_,_,_,_,w):=kat_tups I c y;rw[c.1]at hi A;let(a,o,xs,n1,t1,V,Y,F,d):=w i _<|b8 hi;let(b,o',ys,n2,t2,Z,b2,G,f):=w j _<|b8 A;let ea:its.getD i Value.none=.ref a:=by rw[kq,V];rfl
 let eb:its.getD j Value.none=.ref b:=by rw[kq,Z];rfl
 rw[ea,eb];apply W.kat_lt (n _ _ _ _ F Y) F (n _ _ _ _ G b2) G;obtain⟨g,k,ex⟩:∃g k,xs.toList=g::k:=by
  cases hx:xs.toList with
  |nil=>rw[<-lp,hx]at d;$(nO d)
  |cons g k=>$(⟨g,k,ρ⟩)
 obtain⟨l,m,J⟩:∃l m,ys.toList=l::m:=by
  cases hy:ys.toList with
  |nil=>rw[<-lp,hy]at f;$(nO f)
  |cons l m=>$(⟨l,m,ρ⟩)
 rw[<-lp,ex]at d;rw[<-lp,J]at f;$$$$$$d;$$$$$$f;simp?[ex,J];let L:fs[i]≠fs[j]:=λz=>E<|(He nd).1 z;$(W.kat_cons<|abJ ?_);simp[decide_eq_false L];$(W.kat_no<|oneLt_str ?_);let:nT fs i j=am (fs[i].cps.toList<fs[j].cps.toList):=by$$(nT);rw[gP hi,gP A]
 simp?[<-this];$N
def tB(c:List ew):Prop:=c.Pairwise λa b=>¬(b.cps.toList<a.cps.toList)
def yE (h:abq vs g)(b:xs.Perm (pairsOf vs))(k:SortedToK strKind xs (pairsOf vs).size) :
  ∃a,abq (xs.map (·.2)).toList a/\a.Perm g/\tB a:=by
 let(a,c,u,_):=sorted_out_str h b k;$({a,c,u,?_});let hsz:xs.size=(pairsOf vs).size:=b.size_eq;let d:∀p,p∈xs.toList->p.1=p.2/\p.1∈vs:=λp l=>mem_zip_self (by
  let v:xs.toList.Perm (vs.zip vs):=by rw[<-pairsOf_toList];$(acU.1 b)
  $(v.mem_iff.1 l))
 let f:a.length=xs.size:=by rw[<-c.strs];simp
 let get:∀(i:Nat) (hi:i<a.length),KK strKind xs i=a[i].cps.toList:=λi hi=>by
  let hx:i<xs.size:=by rw[<-f];$hi
  let w:=c.strs;let m:=d xs[i] ⋯;let(y,t,n):=h.all _ m.2;let x:xs[i]=(aai y t,xs[i].2):=by rw[<-n]
  rw[KK_str hx x];let o:a[i]?=ac y:=by simp?[<-w,ee,lp,Array.getElem?_map,nq hx];simp;rw[<-m.1,n];rfl
  rw[b8 hi]at o;$$$$$$o;rfl
 delta tB;rw[nr];ext i j hi z r;let q:=k i j (acu r) (by simp!);rw[get i hi,get j z]at q;$(of_decide_eq_false q)
def vW:List V->Hp->VK->Prop:=λxs H Q=>∃p kvs b,xs=[.ref p]/\Rd H p (.dK kvs)/\kvs.map (·.1)=b.map px/\kvs.length<64/\∀a,a.Perm b->tB a->∀l,H l=al->Q (.ref l) (upd H l<|.L<|a.map V.str)
theorem zQ (h:abq a ys):aH (ys.map V.str) a:=by
 induction h with
 |nil=>$(.nil)
 |cons y t _ b=>$(.cons ⟨t,ρ⟩ b)
theorem FO:∀{a:List ew}{vs:List bt},vs.length=a.length->(∀(j:Nat) (u:bt),vs[j]?=ac u->∃y,a[j]?=ac y/\jM (px y) u=bd)->abq vs a
 |[],[],_,_=>.nil
 |[],_::_,h,_=>by simp at h
 |_::_,[],h,_=>by simp at h
 | y::a,v::vs,h,k=>by
  let(y',b,c):=k 0 v ρ;$$$$$$b;let(i,t,z,_)||(x,t,z,d):=ju c
  .lk
  $$$z;rw[d];$(.cons _ _ (FO (by$$$$h) λj u e=>by$$$$(k (j+1) u (e))))
theorem BD(hex:X.ex=[])(U:X.calm=bd):bP X (.builtin "sorted") vW:=by
 ext pins s σ H xs us Q I r h;let(p,kvs,v,rfl,rd,G,h64,q):=h;let(u,rfl,Y):=r.one;$$Y;let(z,lo,J,i,dd):=k8 I.aj rd;let(ep,K):=dd.dictAt;let(m,Z,hl):=I.loc;let A:∀b∈X.ex,∃o,s.heap.get? b=ac o:=by simp!
 let Fl:=I.Gm Z;let Nl:News (fG s.heap X.env.locals) X.env.locals s.heap (mX (fG s.heap X.env.locals) s.heap X.env.locals):=HJ;let hkl:=i.length;let L:=i.keys;let M:v.length=kvs.length:=by$$$$((congrArg List.length G).symm)
 $(W.kdu_sorted (W.kdl_dict lo) (I.ok.hd U) Fl Nl K (by rw[vi];lia) λB h' tk vs N C O hvl hv=>?_);let D:abq vs v:=FO (by simp!) λj u e=>by
  let(k,x,e1,e2):=hv j u e;let a:(J.map (·.1))[j]?=ac k:=by rw[ee,e1];rfl
  simp?[<-L,G,ee]at a;cases P:v[j]? with
  |none=>rw[P]at a;$(nO a)
  |some y=>rw[P]at a;$$$$$$a;$(⟨y,ρ,e2⟩)
 let E:=(C _ eR).1;let d:=(C _ eR).2;let g:vs.length<64:=by simp!
 $(ub adI {_,E,ρ} adn (afX ad0 E D.keysOf (λv₁ v₂ rest e=>aes (by rw[<-e];$D)) g λf a1 a2=>{_,ρ,?_})<|adJ _);let(l,b1,R,b3):=yE D a1 a2;let(c,hD):=agm E;let n:s.heap.get? B=al:=by
  cases y:s.heap.get? B with
  |none=>rfl
  |some o=>$(absurd (O _<|xh d.1 d.2 y)<|p5 _)
 let kp:=AO N C λq hq=>eH _ hq;let t:∀b o,b≠B->h'.get? b=ac o->(sortedHeap h' B vs ((aeQ f).map (·.2))).get? b=ac o:=λb o F e=>(aga F<|e7 e).trans e;let S:(sortedHeap h' B vs ((aeQ f).map (·.2))).Ns X.env.locals m:=by let(oL,es,T,ho,r):=N.ns;$({oL,es,T,t _ _ (λz=>d.1 z.symm) ho,r})
 $({.ref B,upd H B<|.L<|l.map V.str,I.xR hl S (λb o F e=>t b o (by lia)<|kp b o F e) n A ⟨?_,_,c,zQ b1,∅⟩,ρ,q l R b3 B<|I.aj.dead n});simp?[a8,R.length_eq,M];$z
theorem wu{f:Type}{R:f->f->Prop}(d:∀a b,R a b->R b a->a=b):∀{l c:List f},l.Perm c->l.Pairwise R->c.Pairwise R->l=c
 |[],c,p,_,_=>(List.Perm.eq_nil p.symm).symm
 |a::l,[],p,_,_=>by$$$p.length_eq
 | a::l,b::c,p,h,h'=>by
  rw[P']at h h';let e:a=b:=by
   let g:=p.mem_iff.1 eR;let i:=p.mem_iff.2 eR;let z||z:=dV.1 g
   .$z
   let y||y:=dV.1 i
   .$y.symm
   $(d a b (h.1 b y)<|h'.1 a z)
  $$e;rw[wu d (List.Perm.cons_inv p) h.2 h'.2]
def cj(a b:ew):Bool:=!am (b.cps.toList<a.cps.toList)
def cp(a:List ew):List Str:=a.mergeSort cj
def jL:cj a b=bd↔¬(b.cps.toList<a.cps.toList):=by$$(cj);simp
def pP(a b c)(d:cj a b=bd)(f:cj b c=bd):cj a c=bd:=by rw[jL]at *;grind
def oy(a b):(cj a b||cj b a)=bd:=by grind [cj]
def DM(a):tB (cp a):=by$((uz (le:=cj) pP oy a).imp λh=>jL.1 h)
def vX (p:c.Perm d)(h:tB c):c=cp d :=
 wu (λa b f g=>vM<|abi (aag.1 f)<|aag.1 g) (p.trans (gj d cj).symm) h (DM d)
def kW:Dat->Option ew
 |.U (.str x::_)=>ac x
 |_=>al
def firstsD:List Dat->Option (List ew)
 |[]=>ac []
 |d::r=>(kW d).bind λx=>(firstsD r).map (x::·)
def il(d:Dat):Str:=(kW d).getD ow
def dN(a b:Dat):Bool:=cj (il a)<|il b
def iH(ds:List Dat):List Dat:=ds.mergeSort dN
theorem HY:∀{ds:List Dat}{fs:List ew},firstsD ds=ac fs->fs=ds.map il/\∀d∈ds,∃x,kW d=ac x
 |[],_,e=>by$$$$$$e;$({ρ,λd h=>by simp at h})
 | d::r,_,e=>by
  let e:(kW d).bind (λx=>(firstsD r).map (x::·))=ac _:=e;cases b:kW d with
  |none=>rw[b]at e;$(nO e)
  |some x =>
   rw[b]at e;cases a:firstsD r with
   |none=>rw[a]at e;$(nO e)
   |some ys=>rw[a]at e;$$$$$$e;let(h1,h2):=HY a;simp![il]
theorem Fy{K:e6}{H c:Hp}(s:af c H):∀{ds:List Dat}{vs:List V}{fs:List ew},firstsD ds=ac fs->aw K c ds vs->pI K H vs fs
 |[],_,_,e,r=>by$$$$$$e;rw[show _=[]from r];$({ρ,λi f e=>by simp at e})
 | d::ds,_,_,e,g=>by
  let(v,vr,k,l,rs):=g;let e:(kW d).bind (λx=>(firstsD ds).map (x::·))=ac _:=e;cases a:kW d with
  |none=>rw[a]at e;$(nO e)
  |some x =>
   rw[a]at e;cases b:firstsD ds with
   |none=>rw[b]at e;$(nO e)
   |some ys =>
    rw[b]at e;$$$$$$e;let(m,h2):=Fy s b rs;simp[k];$({by simp[m],λi f h=>?_});cases i with
    |zero =>
     simp at h;$$h;delta kW at a;$$$$$a
     .$$$$$$a;let(p,n,rfl,o,w1,wr,q,j,_):=l;$$j;$({p,n,ρ,bj.mono s o,by rw[q];rfl})
     $(nO a)
    |succ i=>simp!
theorem aw.pick{K:e6}{H:Hp}{ds:List Dat}{vs:List V}(r:aw K H ds vs):∀(l:List Nat),(∀i∈l,i<vs.length)->aw K H (l.map λi=>ds.getD i .aP) (l.map λi=>vs.getD i .aP)
 |[],_=>rfl
 | i::l,h=>by
  let hi:=h i eR;let a:i<ds.length:=by rw[<-r.length];$hi
  let(v,b,c):=r.get<|b8 a;$({vs.getD i .aP,_,ρ,?_,aw.pick r l λj d=>h j<|eH _ d});simp?[kq,b,b8 a];$c
def CF{a:Type}(l:List a)(d:a):(lb l.length).map (λi=>l.getD i d)=l:=by apply aeF ⋯;ext i h1 b;simp?[aaH,List.getElem_range,gP b]
def Kq (nd:(ds.map il).Nodup)(P:dj q ds.length)(U:fx (nT<|ds.map il) q ds.length):(q.toList.map λi=>ds.getD i .aP)=iH ds:=by
 let pm:(q.toList.map λi=>ds.getD i .aP).Perm ds:=by let:=P.pm.map<|λi=>ds.getD i .aP;rwa[CF]at this
 let l:∀i,i<ds.length->il (ds.getD i .aP)=(ds.map il).getD i ow:=λi hi=>by rw[gP hi,gP (by$$$$hi)];simp
 let f:(q.toList.map λi=>ds.getD i .aP).Pairwise (λa b=>dN a b=bd/\a∈ds/\b∈ds):=by
  rw[nr];ext i j hi c m;let n:i<ds.length:=by rw[<-P.size];$$$$hi
  let d:j<ds.length:=by rw[<-P.size];$$$$c
  $({?_,pm.mem_iff.1<|G' _,pm.mem_iff.1<|G' _});let u:=U i j m d;let p:q.toList[i]'(by$$$$hi)=q.getD i 0:=by simp?[pq,nq (by$$$$hi)];simp
  let r:q.toList[j]'(by$$$$c)=q.getD j 0:=by simp?[pq,nq (by$$$$c)];simp
  simp?[aaH,p,r];$$(dN);rw[l _ (P.lt i n),l _<|P.lt j d,jL];unfold nT at u;$(λz=>ac3 _<|afc (of_decide_eq_true u) z)
 let g:(iH ds).Pairwise (λa b=>dN a b=bd/\a∈ds/\b∈ds):=by
  $(aac (λt v o=>{o,?_,?_})<|uz (le:=dN) (λa b c d f=>pP _ _ _ d f) (λa b=>oy _ _) ds)
  .$((gj ds dN).mem_iff.1 t)
  $((gj ds dN).mem_iff.1 v)
 $(wu (λa b k w=>?_) (pm.trans (gj ds dN).symm) f g);let e:=vM<|abi (aag.1<|jL.1 k.1)<|aag.1<|jL.1 w.1;let(i,hi,x):=nS k.2.1;let(j,c,y):=nS k.2.2;let A:(ds.map il)[i]'(by$$$$hi)=(ds.map il)[j]'(by$$$$c):=by simp[x,y,e]
 let e3:=(He nd).1 A;simp!
def iA:List Dat->Option Res
 |[.cg a]=>if a.length<64 then ac (.O (.L ((cp (a.map (·.1))).map .str)))else al
 |[.L ds]=>(firstsD ds).bind λfs=>if fs.Nodup/\ds.length<64 then ac (.O<|.L<|iH ds)else al
 |_=>al
theorem uG{K:e6}{H:Hp}:∀{a:List (ew×Dat)}{kvs:List (Key×V)},bN K H a kvs->kvs.map (·.1)=(a.map (·.1)).map px
 |[],_,h=>by rw[show _=[]from h];rfl
 |(k,d)::a,_,b=>by let(v,r,e,q,t):=b;rw[e];simp[uG t]
theorem qK{K:e6}{H:Hp}:∀(a:List ew),aw K H (a.map .str) (a.map V.str)
 |[]=>rfl
 |x::r=>{.str x,_,ρ,ρ,qK r}
theorem AE:CD X (λxs H Q=>vy X.K xs H Q\/vW xs H Q) iA:=by
 ext H0 ps Z σ H h vs ds o Q a S r k;delta iA at a;$$$$$a
 .ext1 w;$$$$$a
  .ext1 c;$$$$$$a;let(v,x,rfl,(p,kvs,rfl,y,j),g):=r;$$g;$(τ {p,kvs,w.map (·.1),ρ,Rd.of<|S.sub _ _ y,uG j,by rw[bN.length j];$c,λss' pm m l b=>?_});rw[vX pm m];$(k (.ref l) _ h (S.made b) (af.refl _) {l,ρ,{_,bw,qK _,S.dP b},(S.bU b).2,(S.bU b).1,S.eM b})
  $(nO a)
 .ext1 n;cases f:firstsD n with
  |none=>rw[f]at a;$(nO a)
  |some fs =>
   rw[f]at a;simp?[gD]at a;$$$$$a
   .ext1 c;$$$$$$a;let(v,x,rfl,(p,z,rfl,rd,rs),g):=r;$$g;let d:=rs.length;$(ι {p,z,fs,ρ,Rd.mono S.sub rd,Fy S.sub f rs,c.1,by rw[d];$(c.2),λout h l b=>?_});let(q,P,U,A):=h;let(t,_):=HY f;$$t;simp[d]at P U;let B:=Kq c.1 P U;$$A;let u:=aw.pick rs q.toList (λi hi=>by rw[d];$(zT P i hi));rw[B]at u;$(k (.ref l) _ h (S.made b) (af.refl _) {l,ρ,{_,bw,u,S.dP b},(S.bU b).2,(S.bU b).1,S.eM b})
   $(nO a)
 $(nO a)
def BX (a:X.ex=[])(b:X.calm=bd)(c:Gl X "sorted")(d:X.mg "sorted"=al)(f:bI X e [])(g:DA X [e] fa):DE X (.Call (.Name "sorted" p) [e] [] pos) (cE iA fa) :=
 iE (bP.or (F9 a)<|BD a b) AE c d (by decide +kernel) g ⋯ ⋯ f rfl
structure j7 (x:ew):Prop where
 mark:True
def O4 (hl:j7 x)(hnd:N.Nodup)(hXN:X.N=N)(hkb:(gz scope).findIdx? (·==x)=ac kb)(hj:N.findIdx? (·==x)=ac j)(h:X.calm=bd)(B:i8 X.env.scope scope)(f:gA X.N (gz scope) scope (pE N scope)=bd)(i:∀x,pw iter X.env x=pure x)(hi:dv X d iter fi)(k:∀(b:List (ew×cA)) (C:cA) (a:dq) (H:Hp) (c:List cA),DG (cu X (gz scope) scope b C a H c) d g)(l:∀(b:List (ew×cA)) (C:cA) (a:dq) (H:Hp) (c:List cA),lP (cu X (gz scope) scope b C a H c) ifs fc)(m:∀(b:List (ew×cA)) (C:cA) (a:dq) (H:Hp) (c:List cA),DD (cu X (gz scope) scope b C a H c) elt fe):DE X (.ListComp elt [{d,iter,ifs,0}] scope pos) (eO (pE N scope) (ac (kb,j)) fi g fc fe):=Na kb j h B f hi k l m i
end
def lL:List Dat->List Dat->Bool
 |[],[]=>true
 |x::xs,y::ys=>dU x y&&lL xs ys
 |_,_=>false
def kc(i j):dU (.int i) (.int j)=am (i=j):=by rfl
def kh(i j):dU (.str i) (.str j)=am (i=j):=by rfl
theorem yD:∀xs ys:List Dat,aeO (cR xs) (cR ys)=lL xs ys
 |[],[]=>by rfl
 |x::xs,[]=>by rfl
 |[],y::ys=>by rfl
 |x::xs,y::ys=>by simp?[cR,aeO,yD xs ys];rfl
def xU(xs ys):dU (.U xs) (.U ys)=lL xs ys:=by show qe (.tuple<|cR xs) (.tuple<|cR ys)=_;simp?[qe,yD]
def uT(xs ys):dU (.L xs) (.L ys)=lL xs ys:=by show qe (.list<|cR xs) (.list<|cR ys)=_;simp?[qe,yD]
def fW:Dat->Bool
 |.aP=>true
 |.bl _=>true
 |.int _=>true
 |.str x=>o3 x
 |_=>false
def nX:Dat->Bool
 |.U ds=>ds.all fW
 |.L ds=>ds.all fW
 |d=>fW d
def uj (h:fW d=bd):jj d=bd/\(toPy d).canLay0=bd/\(toPy d).depth=0:=by
 $$$d<;>first|$$$h|skip
 .$({ρ,by rw[toPy,aad],by rfl})
 .$({ρ,by rw[toPy,aad],by rfl})
 .$({ρ,by rw[toPy,aad],by rfl})
 $({ρ,by rw[toPy,aad];$h,by rfl})
theorem Az{n:Nat}{p:Dat->Bool}(e:∀d,p d=bd->jj d=bd/\(toPy d).canLay0=bd/\(toPy d).depth<=n):∀{ds:List Dat},ds.all p=bd->jA ds=bd/\aat (cR ds)=bd/\acw (cR ds)<=n
 |[],_=>{ρ,by rw[cR,aat],by simp[cR,acw]}
 | d::ds,h=>by
  simp?[aaN,ec]at h;let(a,b,c):=e d h.1;let(f,g,c'):=Az e h.2;$({?_,?_,?_})
  .simp?[jA,a,f];rfl
  .simp?[cR,aat,b,g];rfl
  dsimp[cR,acw];lia
theorem B2 (h:nX d=bd):jj d=bd/\(toPy d).canLay0=bd/\(toPy d).depth<=1:=by
 let k:=@Az 0 fW λd h=>{(uj h).1,(uj h).2.1,afK (uj h).2.2};let l:fW d=bd->jj d=bd/\(toPy d).canLay0=bd/\(toPy d).depth<=1:=by simp![uj]
 cases d with
 |U ds=>let(a,b,c):=k h;simp![jj,toPy,aad,PyData.depth]
 |L ds=>let(a,b,c):=k h;simp![jj,toPy,aad,PyData.depth]
 |_=>$(l h)
def lj (h:nX d=bd):bL d=bd:=by let(a,b,c):=B2 h;dsimp[bL,adl];lia
def zG (h:ds.all nX=bd):bL (.L ds)=bd:=by let(a,b,c):=@Az 1 nX (λd h=>B2 h) ds h;dsimp[bL,adl];simp?[jj,toPy,aad,PyData.depth,a,b];simp;lia
def mq:bL (.int i)=bd:=lj ρ
def gv (h:o3 x=bd):bL (.str x)=bd:=lj h
def Ir (h:ds.all fW=bd):bL (.U ds)=bd:=lj h
theorem vo(d):∀ds:List Dat,inD d ds=ds.any λy=>dU y d
 |[]=>by rfl
 |y::r=>by let:=vo d r;unfold inD at this ⊢;simp?[cR,W0,this];rfl
def after(g:SF):Out->Option Out
 |.next Z=>g Z
 |o=>ac o
def pick (b:Bool)(x y:a):a:=if b=bd then x else y
section
variable{f g:DF}{e:EF}{c c':BF}{s s':SF}{a:AF}{Z Z1 Z2 Z3:DS}{d d':Dat}{ds:List Dat}{r:Res}{b b':Bool}{o o1:Out}{oo:Option Out}{Q:Out->Prop}{K:e6}{H Hi H' Hi':Hp}{os:List (Option Dat)}{σ:St}{H0:Hp×Hp}{ps:Nat->Option cA}{P:hE}{w:iR}{mg:ew->Option bt}{base:k7}
def v_after{g:SF}:(iQ s g Z)=(s Z).bind (after g):=by rfl
def dS{g:SF}(h:s Z=ac o1)(h':after g o1=oo):iQ s g Z=oo:=by rw[v_after,h];$h'
def dR{g:SF}(h:g Z=oo):after g (.next Z)=oo:=h
def Rc{g:SF}{i:Res}{j:DS}(h:r=i)(h':Z=j):after g (.ret r Z)=ac (.ret i j):=by rw[<-h,<-h'];rfl
def Ul:(Res.D d).val=d:=ρ
theorem Nc:(Res.O d).val=d:=ρ
def r6(h:c Z=ac (b,Z1))(h':pick b (s Z1) (s' Z1)=oo):kR c s s' Z=oo:=by$$(kR);rw[h];$h'
def Aj (j:b=bd)(h:x=z):pick b x y=z:=by$$j;$h
def qz (j:b=bi)(h:y=z):pick b x y=z:=by$$j;$h
def v_and(h:c Z=ac (b,Z1))(h':pick b (c' Z1) (ac (false,Z1))=ac (b',Z2)):oJ c c' Z=ac (b',Z2):=by$$(oJ);rw[h];$h'
def js(h:c Z=ac (b,Z1))(h':c' Z1=ac (b',Z1)):oJ c c' Z=ac (b&&b',Z1):=by
 delta oJ;rw[h];$$$b
 .rfl
 $h'
def v_or(h:c Z=ac (b,Z1))(h':pick b (ac (true,Z1)) (c' Z1)=ac (b',Z2)):qd c c' Z=ac (b',Z2):=by$$(qd);rw[h];$h'
def tf(h:c Z=ac (b,Z1))(h':c' Z1=ac (b',Z1)):qd c c' Z=ac (b||b',Z1):=by
 delta qd;rw[h];$$$b
 .$h'
 rfl
def gE(h:c Z=ac (b,Z1)):oh c Z=ac (!b,Z1):=by simp![oh]
def eC(h:f Z=ac (d,Z1))(h':kQ d=ac b):m9 f Z=ac (b,Z1):=by simp![m9]
def bB(h:e Z=ac (.D<|.bl b,Z1)):e9 e Z=ac (b,Z1):=by$$(e9);rw[h];rfl
def zB(h:f Z=ac (.bl b,Z1))(h':g Z1=ac (.bl b',Z1)):oU f g Z=ac (.bl<|b&&b',Z1):=by
 delta oU;rw[h];$$$b
 .rfl
 $h'
def Dl(h:f Z=ac (.bl b,Z1))(h':g Z1=ac (.bl b',Z1)):vv f g Z=ac (.bl (b||b'),Z1):=by
 delta vv;rw[h];$$$b
 .$h'
 rfl
def v_res(h:f Z=ac (d,Z1)):nH f Z=ac (.D d,Z1):=by simp![nH]
theorem kN(h:e Z=ac (.O d,Z1)):gp e Z=ac (d,Z1):=by$$(gp);rw[h];rfl
def ah(h:e Z=ac (r,Z1))(h':r.val=d):gp e Z=ac (d,Z1):=by simp![gp]
def aq (h:f Z=ac (d,Z1))(h1:g Z1=ac (d',Z2))(h2:op d d'=ac r):cK op f g Z=ac (r,Z2):=by simp![cK]
def Fj (h:f Z=ac (d,Z1))(h':iG d T=ac b):jo T f Z=ac (.bl b,Z1):=by simp![jo]
def aE (h:a Z=ac (ds,Z1))(h':fn ds=ac r):cE fn a Z=ac (r,Z1):=by simp![cE]
def dz (h0:(Z[i]?).bind ownOf=ac j)(h:a Z=ac (ds,Z1))(h1:(Z1[i]?).bind ownOf=ac t)(h2:fn t.2 ds=ac (r,d'))(h3:Z1.set i (kindAt t.1 d')=Z2):pW fn i a Z=ac (r,Z2):=by simp![pW]
def ak:gm Z=ac ([],Z):=ρ
def ae(h:f Z=ac (d,Z1))(h':a Z1=ac (ds,Z2)):dm f a Z=ac (d::ds,Z2):=by simp![dm]
def dW(h:a Z=ac (ds,Z1))(h':ds.length<=a9):tY a Z=ac (.O<|.L ds,Z1):=by$$(tY);rw[h];$(if_pos h')
def hU(h:a Z=ac (ds,Z1))(h':ds.length<=a9):vB a Z=ac (.U ds,Z1):=by$$(vB);rw[h];$(if_pos h')
def mB{n c:Dat}(h:f Z=ac (c,Z1))(h1:g Z1=ac (n,Z2))(h2:dJ c n=ac d):rB f g Z=ac (d,Z2):=by simp![rB]
def dD{i:Nat}{c0 n c:Dat}(h0:(Z[i]?).bind jK=ac c0)(h1:g Z=ac (n,Z1))(h:(Z1[i]?).bind jK=ac c)(h2:dJ c n=ac d):rM i g Z=ac (d,Z1):=by simp![rM]
def eG{i n:Nat}{c:Dat}(h0:(Z[i]?).bind jK=ac c)(h:du c=ac n):qq i Z=ac (.int n,Z):=by simp![qq]
def xl(h:e Z=ac (r,Z1)):mh e Z=ac (.ret r Z1):=by simp![mh]
def ij (h:e Z=ac (r,Z1))(h':kz i r Z1=ac Z2):gK i e Z=ac (.next Z2):=by simp![gK]
def Ec{g:GF}(h:f Z=ac (d,Z1))(h':g d Z1=ac Z2):qf g f Z=ac (.next Z2):=by$$(qf);rw[h];show(g d Z1).map _=_;rw[h'];rfl
def nc(h:f Z=ac (d,Z1)):mw f Z=ac (.next Z1):=by simp![mw]
def gZ (h:F Z=ac x):alt F G Z=ac x:=by$$(alt);rw[h]
def yF{o1 o2:Dat->Dat->Option Res}(i:f Z=ac (x,Z1))(j:g Z1=ac (y,Z2))(k:o1 x y=ac (.D<|.bl b))(hh:h Z2=ac (z,Z2))(h2:o2 y z=ac (.D<|.bl b')):jk o1 o2 f g h Z=ac (.bl<|b&&b',Z2):=by
 $$(jk);simp?[i];show(g Z1).bind _=_;rw[j];simp?[gD,k];$$$b
 .rfl
 simp!
def TJ{o1 o2:Dat->Dat->Option Res}(hh:jk o1 o2 f g h Z=ac (.bl b,Z1)):sI o1 o2 f g h Z=ac (b,Z1):=by$$(sI);rw[hh];rfl
def kD{C:Int->Int->Bool}{g:Int->Int->Dat}(h:C i j=bd):eI C g (.int i) (.int j)=ac (.D<|g i j):=if_pos h
def v_eq (h:bL x=bd)(h':bL y=bd):fE false x y=ac (.D<|.bl<|dU x y):=by$$(fE);rw[h,h'];rfl
def va (h:bL x=bd)(h':bL y=bd):fE true x y=ac (.D<|.bl<|!dU x y):=by$$(fE);rw[h,h'];rfl
def pj (h:x.length+y.length<=a9):mJ (.str x) (.str y)=ac (.D<|.str<|x++y):=if_pos h
def eU (h:x.length+y.length<=a9):mJ (.L x) (.L y)=ac (.O<|.L<|x++y):=if_pos h
def rS (h:F Z=al)(h':G Z=ac x):alt F G Z=ac x:=by simp![alt]
theorem xX{fi:IF}{g:GF}(h:fi Z=ac (ds,Z1))(h':forLoop g s ds Z1=oo):pJ fi g s Z=oo:=by$$(pJ);rw[h];$h'
def uK (h:s (gy n ds)=ac (.ret r Z)):ic n s ds=ac r:=by$$(ic);rw[h];rfl
def Ax (h:s (jr n j c0 ds)=ac (.ret r Z))(h':Z[j]?=ac (.io i)):mj n j s c0 ds=ac (r,i):=by simp![mj]
def JT (h:f Z=ac (d,Z1))(h0:(Z1[i]?).bind ownOf=ac m)(h1:l Z1=ac (.int k,Z2))(h2:(Z2[i]?).bind ownOf=ac (b,.L xs))(h3:iT xs.length k=ac j)(h4:Z2.set i (kindAt b<|.L<|xs.set j d)=Z3):rf i l f Z=ac (.next Z3):=by simp![rf]
def ui:fE false (.int i) (.int j)=ac (.D<|.bl<|am<|i=j):=by rw[v_eq mq mq,kc]
def qv (h:o3 i=bd)(h':o3 j=bd):fE false (.str i) (.str j)=ac (.D<|.bl<|am<|i=j):=by rw[v_eq (gv h) (gv h'),kh]
theorem Vf(h:b=bd):qO [.bl b]=ac (.D<|.int 1):=by$$h;rfl
theorem O0(h:b=bi):qO [.bl b]=ac (.D<|.int 0):=by$$h;rfl
theorem AN{σ:Type}{g:GF}{fb:SF}(i:σ->DS)(st:Dat->σ->σ)(I:σ->Prop):∀(xs:List Dat) (s:σ),I s->(∀x∈xs,∀s,I s->I (st x s)/\∃Z1,g x (i s)=ac Z1/\fb Z1=ac (.next<|i<|st x s)) ->
  I (xs.foldl (λs x=>st x s) s)/\forLoop g fb xs (i s)=ac (.next<|i<|xs.foldl (λs x=>st x s) s)
 |[],s,h,_=>⟨h,ρ⟩
 |x::xs,s,h,k=>by let(j,Z1,l,m):=k x (eR ..) s h;let:=AN i st I xs (st x s) j λy n=>k y<|eH _ n;$({this.1,?_});show(g x<|i s).bind _=_;rw[l];show(fb Z1).bind _=_;rw[m];$(this.2)
theorem Bs{g:GF}{fc:BF}{fe:DF}(I:Nat->List Dat->DS->Prop):∀(xs:List Dat) (n:Nat) (i:List Dat) (Z:DS),I n i Z->i.length+xs.length<=a9 ->
  (∀(k:Nat) (x:Dat),xs[k]?=ac x->∀i Z,I (n+k) i Z->∃Z1 b Z2,g x Z=ac Z1/\fc Z1=ac (b,Z2)/\((b=bi/\noOwn Z2=bd/\I (n+k+1) i Z2)\/∃d Z3,b=bd/\fe Z2=ac (d,Z3)/\noOwn Z3=bd/\I (n+k+1) (i++[d]) Z3)) ->
  ∃l m,I (n+xs.length) l m/\compLoop g fc fe xs i Z=ac (l,m)
 |[],n,i,Z,h,_,_=>⟨i,Z,h,ρ⟩
 | x::xs,n,i,Z,h,C,k=>by
  let v:∀(j:Nat) (y:Dat),xs[j]?=ac y->∀i Z,I (n+1+j) i Z->∃Z1 b Z2,g y Z=ac Z1/\fc Z1=ac (b,Z2)/\((b=bi/\noOwn Z2=bd/\I (n+1+j+1) i Z2)\/∃d Z3,b=bd/\fe Z2=ac (d,Z3)/\noOwn Z3=bd/\I (n+1+j+1) (i++[d]) Z3):=λj y D i Z E=>by let:=k (j+1) y D i Z (by rw[show n+(j+1)=n+1+j from by lia];$E);rw[show n+(j+1)+1=n+1+j+1 from by lia]at this;$this
  let z:n+(x::xs).length=n+1+xs.length:=by simp?[fq];lia
  let(Z1,b,Z2,A,B,F):=k 0 x ρ i Z h;let(rfl,p,q)||(d,Z3,rfl,G,p,q):=F
  .let(l,m,t,u):=Bs I xs (n+1) i Z2 q ∅ v;$({l,m,z ▸ t,?_});show(g x Z).bind _=_;simp[A];rw[B];show(if noOwn Z2=bd then compLoop g fc fe xs i Z2 else al)=_;rw[if_pos p];$u
  let(l,m,t,u):=Bs I xs (n+1) (i++[d]) Z3 q (by rw[fk];simp;$_) v;$({l,m,z ▸ t,?_});show(g x Z).bind _=_;simp[A];rw[B];show(fe Z2).bind _=_;rw[G];show(if i.length<a9/\noOwn Z3=bd then _ else al)=_;rw[if_pos {∅,p}];$u
def WS(s:SF)(Z:DS)(Q:Out->Prop):Prop:=∃o,s Z=ac o/\Q o
def AQ(g:SF)(Q:Out->Prop):Out->Prop
 |.next Z=>WS g Z Q
 |.ret r Z=>Q (.ret r Z)
 |.brk Z=>Q (.brk Z)
 |.cont Z=>Q (.cont Z)
 |.exc C Z=>Q<|.exc C Z
def WB(c:BF)(Z:DS)(Q:Bool->DS->Prop):Prop:=∃b Z1,c Z=ac (b,Z1)/\Q b Z1
def WS.mono (h:WS s Z Q)(k:∀o,Q o->i o):WS s Z i:={h.choose,h.choose_spec.1,k _ h.choose_spec.2}
def M5 (h:s Z=ac o)(q:Q o):WS s Z Q:=⟨o,h,q⟩
theorem ao{g:SF}(h:WS s Z (AQ g Q)):WS (iQ s g) Z Q:=by
 let(o,e,q):=h;cases o with
 |next Z1=>let(o2,i,j):=q;$({o2,by rw[v_after,e];$i,j})
 |ret r Z1=>$({_,by rw[v_after,e];rfl,q})
 |brk Z1=>$({_,by rw[v_after,e];rfl,q})
 |cont Z1=>$({_,by rw[v_after,e];rfl,q})
 |exc C Z1=>$({_,by rw[v_after,e];rfl,q})
def bp(q:Q (.next Z)):WS wB Z Q:={_,ρ,q}
def au{g:SF}(h:WS g Z Q):AQ g Q (.next Z):=h
def fN{g:SF}(h:Q (.ret r Z)):AQ g Q (.ret r Z):=h
def bc (h:e Z=ac (r,Z1))(h':kz i r Z1=ac Z2)(q:Q (.next Z2)):WS (gK i e) Z Q:={_,ij h h',q}
def Af{g:GF}(h:f Z=ac (d,Z1))(h':g d Z1=ac Z2)(q:Q (.next Z2)):WS (qf g f) Z Q:={_,Ec h h',q}
def bY(h:e Z=ac (r,Z1))(q:Q (.ret r Z1)):WS (mh e) Z Q:={_,xl h,q}
def rT(h:f Z=ac (d,Z1))(q:Q (.next Z1)):WS (mw f) Z Q:={_,nc h,q}
def mV(h:WB c Z λb Z1=>(b=bd->WS s Z1 Q)/\(b=bi->WS s' Z1 Q)):WS (kR c s s') Z Q:=by
 let(b,Z1,e,j,k):=h;$$$b
 .let(o,i,q):=k ρ;$({o,r6 e i,q})
 let(o,i,q):=j ρ;$({o,r6 e i,q})
def eA(h:c Z=ac (b,Z1))(t:b=bd->WS s Z1 Q)(n:b=bi->WS s' Z1 Q):WS (kR c s s') Z Q:=mV ⟨b,Z1,h,t,n⟩
def B'{Q:Bool->DS->Prop}(h:c Z=ac (b,Z1))(q:Q b Z1):WB c Z Q:=⟨b,Z1,h,q⟩
def vp{Q:Bool->DS->Prop}(h:WB c Z λb Z1=>Q (!b) Z1):WB (oh c) Z Q:=by let(b,Z1,e,q):=h;$({!b,Z1,gE e,q})
def uA(N:DS->Prop)(Q:Out->Prop):Out->Prop
 |.next Z=>N Z
 |.cont Z=>N Z
 |.brk Z=>Q (.next Z)
 |.ret r Z=>Q (.ret r Z)
 |.exc _ _=>False
theorem GX{g:GF}{fb:SF}{Q:Out->Prop}(I:Nat->DS->Prop):∀(xs:List Dat) (n:Nat) (Z:DS),I n Z->(∀(k:Nat) (x:Dat),xs[k]?=ac x->∀Z,I (n+k) Z->∃Z1,g x Z=ac Z1/\WS fb Z1 (uA (I<|n+k+1) Q)) ->
  (∀Z,I (n+xs.length) Z->Q (.next Z))->WS (forLoop g fb xs) Z Q
 |[],n,Z,h,_,i=>{_,ρ,i Z h}
 | x::xs,n,Z,h,k,i=>by
  let(Z1,l,o,m,q):=k 0 x ρ Z h;let go:∀Z2,I (n+0+1) Z2->WS (forLoop g fb xs) Z2 Q:=λZ2 p=>GX I xs (n+1) Z2 p (λj y t Z u=>by
   let:=k (j+1) y t Z (by rw[show n+(j+1)=n+1+j from by lia];$u);rw[show n+(j+1)+1=n+1+j+1 from by lia]at this
   $this)<|λZ hd=>i Z (by simp?[fq,show n+(xs.length+1)=n+1+xs.length from by lia];$hd)
  let hh:∀oo,fb Z1=ac oo->forLoop g fb (x::xs) Z=match oo with
   |.next Z2=>forLoop g fb xs Z2
   |.cont Z2=>forLoop g fb xs Z2
   |.brk Z2=>ac (.next Z2)
   |.ret r Z2=>ac (.ret r Z2)
   |.exc _ _=>al:=λoo v=>by
   show(g x Z).bind _=_;rw[l];show(fb Z1).bind _=_;rw[v];$$$oo<;>rfl
  let hh:=hh o m;delta WS;cases o with
  |next Z2=>rw[hh];$(go Z2 q)
  |cont Z2=>rw[hh];$(go Z2 q)
  |brk Z2=>rw[hh];$({_,ρ,q})
  |ret r Z2=>rw[hh];$({_,ρ,q})
  |exc C Z2=>$q.elim
def e8{fi:IF}{g:GF}{fb:SF}(I:Nat->DS->Prop)(h:fi Z=ac (ds,Z1))(l:I 0 Z1)(st:∀(k:Nat) (x:Dat),ds[k]?=ac x->∀Z,I k Z->∃Z1,g x Z=ac Z1/\WS fb Z1 (uA (I<|k+1) Q))
 (i:∀Z,I ds.length Z->Q (.next Z)):WS (pJ fi g fb) Z Q:=by
 let:=GX I ds 0 Z1 l (λk x hx Z j=>by
  let(Z1,m,w):=st k x hx Z (by rw[aal]at j;$j)
  $({Z1,m,by rw[aal];$w}))<|λZ hd=>i Z (by rw[aal]at hd;$hd)
 let(o,e,q):=this;$({o,xX h e,q})
def El{caps:List (Option Nat)}{fi:IF}{g:GF}{fc:BF}{fe:DF}{out:List Dat}{i:DS}(h:fi Z=ac (ds,Z1))(hf:aZ al caps Z1=Z2)(hl:compLoop g fc fe ds [] (cD caps Z2)=ac (out,i)):eO caps al fi g fc fe Z=ac (.O<|.L out,Z2):=by simp![eO]
def Nm{caps:List (Option Nat)}{k j:Nat}{fi:IF}{g:GF}{fc:BF}{fe:DF}{out:List Dat}{i:DS}{c0 l:Dat}(h:fi Z=ac (ds,Z1))(hf:aZ (ac (k,j)) caps Z1=Z2)(hc:caps[k]?=ac (ac j))(hj:Z2[j]?=ac (.io c0))
 (hl:compLoop g fc fe ds [] ((cD caps Z2).set k (.io c0))=ac (out,i))(hk:i[k]?=ac (.io l))(h3:Z2.set j (.io l)=Z3):eO caps (ac (k,j)) fi g fc fe Z=ac (.O<|.L out,Z3):=by
 simp![eO]
theorem FN{g:GF}{fc:BF}{fe:DF}{n:DS}(put:Dat->DS)(keep:Dat->Bool)(val:Dat->Dat):∀(xs:List Dat) (h:List Dat) (Z:DS),h.length+xs.length<=a9 ->
  (∀x∈xs,∀Z,(Z=n\/∃y,Z=put y)->g x Z=ac (put x))->(∀x∈xs,fc (put x)=ac (keep x,put x))->(∀x∈xs,keep x=bd->fe (put x)=ac (val x,put x))->(∀x∈xs,noOwn (put x)=bd)->(Z=n\/∃y,Z=put y) ->
  ∃l,compLoop g fc fe xs h Z=ac (h++(xs.filter keep).map val,l)
 |[],h,Z,_,_,_,_,_,_=>{Z,by simp[compLoop]}
 | x::xs,h,Z,z,p,q,t,u,hd=>by
  simp at z;let A:=p x (eR ..) Z hd;let B:=q x<|eR ..;let n1:=u x<|eR ..;let j:=λk (v:k.length+xs.length<=a9)=>FN put keep val xs k (put x) v (λy i=>p y<|eH _ i) (λy i=>q y<|eH _ i) (λy i=>t y<|eH _ i) (λy i=>u y<|eH _ i)<|τ ⟨x,ρ⟩;cases m:keep x with
  |false=>let(l,e):=j h ∅;simp![compLoop]
  |true=>let(l,e):=j (h++[val x]) (by rw[fk];simp;$_);$({l,?_});show(g x Z).bind _=_;rw[A];show(fc<|put x).bind _=_;rw[B,m];show(fe<|put x).bind _=_;rw[t x (eR ..) m];show(if h.length<a9/\noOwn (put x)=bd then _ else al)=_;rw[if_pos {∅,n1},e,abj,m];simp
def WE(e:EF)(Z:DS)(Q:Res->DS->Prop):Prop:=∃r Z1,e Z=ac (r,Z1)/\Q r Z1
def WD(f:DF)(Z:DS)(Q:Dat->DS->Prop):Prop:=∃d Z1,f Z=ac (d,Z1)/\Q d Z1
def WA(a:AF)(Z:DS)(Q:List Dat->DS->Prop):Prop:=∃ds Z1,a Z=ac (ds,Z1)/\Q ds Z1
def jS{Q:Res->DS->Prop}(h:e Z=ac (r,Z1))(q:Q r Z1):WE e Z Q:=⟨r,Z1,h,q⟩
def xV{Q:Dat->DS->Prop}(h:f Z=ac (d,Z1))(q:Q d Z1):WD f Z Q:=⟨d,Z1,h,q⟩
def Le{Q:Res->DS->Prop}(h:WD f Z λd Z1=>Q (.D d) Z1):WE (nH f) Z Q:=by let(d,Z1,i,q):=h;$({_,Z1,v_res i,q})
def fZ{Q:Dat->DS->Prop}(h:WE e Z λr Z1=>Q r.val Z1):WD (gp e) Z Q:=by let(r,Z1,i,q):=h;$({_,Z1,ah i ρ,q})
theorem Fi{op:Dat->Dat->Option Res}{Q:Res->DS->Prop}(h:WD f Z λd Z1=>WD g Z1 λd' Z2=>∃r,op d d'=ac r/\Q r Z2):WE (cK op f g) Z Q:=by let(d,Z1,i,d',Z2,j,r,k,q):=h;$({r,Z2,aq i j k,q})
def lR{Q:List Dat->DS->Prop}(q:Q [] Z):WA gm Z Q:={_,_,ρ,q}
def l6{Q:List Dat->DS->Prop}(h:WD f Z λd Z1=>WA a Z1 λds Z2=>Q (d::ds) Z2):WA (dm f a) Z Q:=by let(d,Z1,i,ds,Z2,j,q):=h;$({_,Z2,ae i j,q})
def lS {Q:Res->DS->Prop}(h:WA a Z λds Z1=>∃r,fn ds=ac r/\Q r Z1):WE (cE fn a) Z Q:=by let(ds,Z1,i,r,j,q):=h;$({r,Z1,aE i j,q})
def Cm (h:f Z=ac (.L ds,Z1))(i:d7 ds=ac ys)(j:sep.length<=16/\(ys.map (·.length)).sum+ys.length<=1048576):ko sep f Z=ac (.str<|kH sep ys,Z1):=by delta ko;simp[h];simp?[i];$(if_pos j)
theorem N3{sep:ew}{Q:Dat->DS->Prop}(h:WD f Z λd Z1=>∃ds ys,d=.L ds/\d7 ds=ac ys/\(sep.length<=16/\(ys.map (·.length)).sum+ys.length<=1048576)/\Q (.str<|kH sep ys) Z1):WD (ko sep f) Z Q:=by let(d,Z1,i,ds,ys,rfl,j,k,q):=h;$({_,Z1,Cm i j k,q})
def Uy{Q:Bool->DS->Prop}(h:WE e Z λr Z1=>∃b,r=.D (.bl b)/\Q b Z1):WB (e9 e) Z Q:=by let(r,Z1,i,b,rfl,q):=h;$({b,Z1,bB i,q})
def uD{Q:Bool->DS->Prop}(h:WD f Z λd Z1=>∃b,kQ d=ac b/\Q b Z1):WB (m9 f) Z Q:=by let(d,Z1,i,b,j,q):=h;$({b,Z1,eC i j,q})
def VM (h:WE e Z λr Z1=>∃Z2,kz i r Z1=ac Z2/\Q (.next Z2)):WS (gK i e) Z Q:=by let(r,Z1,j,Z2,k,q):=h;$({_,ij j k,q})
def sk (h:WE e Z λr Z1=>Q<|.ret r Z1):WS (mh e) Z Q:=by let(r,Z1,i,q):=h;$({_,xl i,q})
def SV{caps:List (Option Nat)}{kb j:Nat}{fi:IF}{g:GF}{fc:BF}{fe:DF}{xs:List Dat}{c0:Dat}{Q:Res->DS->Prop}(I:Nat->List Dat->DS->Prop)(hi:fi Z=ac (xs,Z1))(t:aZ (ac (kb,j)) caps Z1=Z2)(u:caps[kb]?=ac (ac j))(v:Z2[j]?=ac (.io c0))(y:I 0 [] ((cD caps Z2).set kb (.io c0)))(z:xs.length<=a9)
 (st:∀(k:Nat) (x:Dat),xs[k]?=ac x->∀h Z,I k h Z->∃Z1,g x Z=ac Z1/\WB fc Z1 λb Z2=>(b=bi->noOwn Z2=bd/\I (k+1) h Z2)/\(b=bd->WD fe Z2 λd Z3=>noOwn Z3=bd/\I (k+1) (h++[d]) Z3))
 (m:∀h Z,I xs.length h Z->∃l,Z[kb]?=ac (.io l)/\Q (.O<|.L h) (Z2.set j<|.io l)):WE (eO caps (ac (kb,j)) fi g fc fe) Z Q:=by
 let(h,A,n,B):=Bs I xs 0 [] _ y (by$$$$z) (λk x hx h Z i=>by
  rw[aal]at i ⊢;let(Z1,C,b,Z2,D,p,E):=st k x hx h Z i;$({Z1,b,Z2,C,D,?_});$$$b
  .$(ι {ρ,(p ρ).1,(p ρ).2})
  let(d,Z3,F,n3,G):=E ρ;$(τ ⟨d,Z3,ρ,F,n3,G⟩))
 rw[aal]at n;let(l,i,q):=m h A n;$({_,_,Nm hi t u v B i ρ,q})
def tO:Option Dat->Slot
 |some d=>.D d
 |none=>.no
structure wc (K:e6) (Hi:Hp) (os:List (Option Dat)) (σ:St):Prop where
 len:os.length=σ.length
 at_:∀(i:Nat) (d:Dat),os[i]?=ac (ac d)->∃v,σ[i]?=ac (ac v)/\Rep K Hi d v
theorem vf{i:Nat}{s:Slot}(h:(os.map tO)[i]?=ac s):(∃d,os[i]?=ac (ac d)/\s=.D d)\/s=.no:=by
 rw[ee]at h;cases e:os[i]? with
 |none=>rw[e]at h;$(nO h)
 |some o =>
  rw[e]at h;$$$$$$h;cases o with
  |none=>$(τ ρ)
  |some d=>$(ι ⟨d,ρ,ρ⟩)
theorem wc.sr(D:wc K Hi os σ)(s:af Hi H):SR K (H,Hi) (λ_=>al) (os.map tO) σ H Hi where
 sub:=s
 keep:=λb o e _=>e
 eF:=λp ⟨_,z⟩=>by$(nO z)
 D:=λi d e=>by
  let(d',h,z)||z:=vf e
  .$$$z;$(D.at_ i d h)
  lk
 O:=λi c e=>by let(d',h,z)||z:=vf e<;>lk
 io:=λi c e=>by let(d',h,z)||z:=vf e<;>lk
 ne:=λi j c c' p e _ _ _=>by let e||e:=e<;>let(d',h,z)||z:=vf e<;>lk
 len:=by rw[a8];$D.len
 nw:=λp o e=>ι e
def iS (n:Nat)(f:List h->Option i):List h->Option i:=λds=>if ds.length=n then f ds else al
def Gv{i j:Type}{n:Nat}{f:List i->Option j}{ds:List i}(h:ds.length=n):iS n f ds=f ds:=if_pos h
def bQ{x h:ew}{st:zR}{f:cA}{j:gi}{N ps:List ew}{k n:Nat}{fb:SF}{Spec:aJ->Prop}(F:ba K x h st f j)(S:bq N ps (aI st))(hn:ps.length=n)
 (l:∀(cdv:bt) (A:nL) (outer:List Env) (s:dq) (H:Hp) (E:XK),bS k (A.deeper<|HU h (aI st) s.heap.objs.size f cdv)->cY (jq aT P w K mg base N h (aI st) f cdv A outer s H E).ku (jD st) fb)
 (i:Spec (iS n<|ic N.length fb)):∃fn,aS P w K mg base aT (k+1) f j ps (ay K fn)/\Spec fn:=by
 $({_,vS F S ?_ l ?_,i});simp![iS];simp[iS]
def pZ{x h:ew}{st:zR}{f:cA}{l:gi}{N ps:List ew}{k n j:Nat}{fb:SF}{Spec:dB->Prop}(F:ba K x h st f l)(S:bq N ps (aI st))(hn:ps.length=n+1)
 (m:∀(cdv:bt) (A:nL) (outer:List Env) (s:dq) (H:Hp) (E:XK),bS k (A.deeper<|HU h (aI st) s.heap.objs.size f cdv)->cY (jq aT P w K mg base N h (aI st) f cdv A outer s H E).ku (jD st) fb)
 (i:Spec (λc=>iS n<|mj N.length j fb c)):∃fn,aS P w K mg base aT (k+1) f l ps (dr K j fn)/\Spec fn:=by
 $({_,BG F S ?_ m ?_,i});simp![iS];simp[iS]
theorem NH{CX:gU}{f:cA}{i:gi}{ps:List ew}{k:Nat}:aS P w K mg base CX k f i ps (ay K λ_=>al):=by
 $({λvs H Q E h=>?_,λA outer s H args us vs Q E _ _ _ _ h=>?_})
 .let(_,_,_,_,_,z,_):=h;$(nO z)
 let(_,_,_,_,_,z,_):=h;$(nO z)
def Fg {P:Res->Prop}(i:ds.length=m)(h:WS s (gy n ds) λo=>∃r Z,o=.ret r Z/\P r):∃r,iS m (ic n s) ds=ac r/\P r:=by rw[Gv i];$((λh=>by let(o,e,r,Z,rfl,p):=h;$({r,uK e,p})) h)
def pf {P:Res->Dat->Prop}(k:ds.length=m)(h:WS s (jr n j c0 ds) λo=>∃r Z i,o=.ret r Z/\Z[j]?=ac (.io i)/\P r i):∃r i,iS m (mj n j s c0) ds=ac (r,i)/\P r i:=by rw[Gv k];$((λh=>by let(o,e,r,Z,i,rfl,h,p):=h;$({r,i,Ax e h,p})) h)
def bT (j:ds.length=m)(h:WS s (gy n ds) λo=>∃Z,o=.ret r Z):iS m (ic n s) ds=ac r:=by let(i,e,z):=Fg j (h.mono λo ⟨Z,e⟩=>⟨r,Z,e,ρ⟩);rw[e,z]
def pF{caps:List (Option Nat)}{fi:IF}{g:GF}{fc:BF}{fe:DF}{xs:List Dat}(put:Dat->DS)(keep:Dat->Bool)(val:Dat->Dat)(hi:fi Z=ac (xs,Z1))(h:aZ al caps Z1=Z2)(i:xs.length<=a9)
 (j:∀x∈xs,∀Z,(Z=cD caps Z2\/∃y,Z=put y)->g x Z=ac (put x))(k:∀x∈xs,fc (put x)=ac (keep x,put x))(l:∀x∈xs,keep x=bd->fe (put x)=ac (val x,put x))(m:∀x∈xs,noOwn (put x)=bd) :
  eO caps al fi g fc fe Z=ac (.O<|.L<|(xs.filter keep).map val,Z2):=by
 let(Z',e):=FN put keep val xs [] (cD caps Z2) (by$$$$i) j k l m<|ι ρ;$(El hi h e)
def Ij (h:f Z=ac (.str x,Z1))(hx:x.cps.all (·<128)=bd):alt (ly f) (nI f) Z=ac (x.cps.toList.map λc=>.str ⟨#[c]⟩,Z1):=by$(rS ?_<|(λh hx=>by delta nI;rw[h];$(if_pos hx)) h hx);delta ly;rw[h];rfl
def bX(h:f Z=ac (.L ds,Z1)):alt (ly f) (nI f) Z=ac (ds,Z1):=by apply gZ;delta ly;rw[h];rfl
theorem rN (f):∀cs:List h,jv (cs.map λc=>.bl<|f c)=ac (cs.map f)
 |[]=>rfl
 |c::cs=>by simp?[fR,jv,rN f cs];rfl
end
def fh (h:b=a):∃c,Out.ret (.D<|.bl b) Z=.ret (.D<|.bl a) c:={Z,by rw[h]}
theorem se{N:DS->Prop}{Q:Out->Prop}{Z:DS}(h:N Z):uA N Q (.next Z):=h
def F2(a):dU (.bl a) (.bl a)=bd:=by show qe (.bool a) (.bool a)=bd;simp?[qe];simp
theorem sv{d:Dat}{Z:DS}:dm (fC d) gm Z=ac ([d],Z):=ρ
def mr (h:a Z=ac ([.int n],Z1))(b:-(2 ^ 62)<=n/\n<2 ^ 62):qV a Z=ac (dY 0 n,Z1):=by delta qV;rw[h];$(if_pos b)
structure Ob where
 l:Int
 b:Int
 r:Int
 t:Int
deriving DecidableEq
def Ob.ok(x:Ob):Prop:=x.l<x.r/\x.b<x.t
def Ob.area(x:Ob):Int:=(x.r-x.l)*(x.t-x.b)
def Apart(x y:Ob):Prop:=x.r<=y.l\/y.r<=x.l\/x.t<=y.b\/y.t<=x.b
def mY(i j:Int):Int:=if j<i then j else i
def imax(i j:Int):Int:=if j>i then j else i
def Apart.symm (h:Apart x y):Apart y x:=by grind [Apart]
section
variable{α:Type}[DecidableEq α]
abbrev IA(α):=List<|α×Ob
end
def sm:Nat->(Nat->Nat)->Nat
 |0,_=>0
 |n+1,f=>sm n f+f n
theorem GJ(f g):∀n,sm n (λi=>f i+g i)=sm n f+sm n g
 |0=>rfl
 |n+1=>by show sm n (λi=>f i+g i)+(f n+g n)=_;rw[GJ f g n];show _=(sm n f+f n)+(sm n g+g n);lia
theorem AR:∀{n},(∀i,i<n->f i<=g i)->sm n f<=sm n g
 |0,_=>eS _
 |n+1,h=>Nat.add_le_add (AR λi hi=>h i (by lia))<|h n ⋯
theorem xa:∀{n},(∀i,i<n->f i<=g i)->∀k,k<n->f k<g k->sm n f<sm n g
 |0,_,k,a,_=>by lia
 | n+1,h,k,a,b=>by
  show sm n f+f n<sm n g+g n;ext(e:k=n)
  .$$e;let:=AR (n:=k) λi hi=>h i (by lia);lia
  let:=xa (n:=n) (λi hi=>h i (by lia)) k (by lia) b;let:=h n ⋯;lia
theorem Ak(c):∀n,sm n (λ_=>c)=n*c
 |0=>by simp[sm]
 |n+1=>by show sm n _+c=_;simp?[Ak c n,acs]
def FD:∀n,sm n (λ_=>0)=0:=λn=>by rw[Ak];simp
theorem Ib(a b c)(h:a<=b):∀n,b<=n->sm n (λi=>if a<=i/\i<b then c else 0)=(b-a)*c:=by
 let f:∀n,n<=a->sm n (λi=>if a<=i/\i<b then c else 0)=0:=λn=>by
  induction n with
  |zero=>ext _;rfl
  |succ n d=>ext g;show sm n _+(if a<=n/\n<b then c else 0)=0;rw[d ∅,if_neg ∅]
 let mid:∀n,a<=n->n<=b->sm n (λi=>if a<=i/\i<b then c else 0)=(n-a)*c:=λn=>by
  induction n with
  |zero=>simp[sm]
  |succ n d =>
   ext h1 h2;show sm n _+(if a<=n/\n<b then c else 0)=_;ext(e:a=n+1)
   .rw[f n ∅,if_neg ∅,e];simp
   rw[d (by lia) (by lia),if_pos (by lia),show n+1-a=(n-a)+1 by lia,acs]
 ext n;induction n with
 |zero=>ext g;simp!
 |succ n d=>ext g;ext(e:b=n+1);simp!;show sm n _+(if a<=n/\n<b then c else 0)=_;rw[d (by lia),if_neg (by lia),Nat.add_zero]
def jE(o:Ob)(x y:Nat):Bool:=am (o.l<=(x:Int))&&am ((x:Int)<o.r)&&am (o.b<=(y:Int))&&am ((y:Int)<o.t)
theorem rO{o:Ob}{x y:Nat}:jE o x y=bd↔o.l<=(x:Int)/\(x:Int)<o.r/\o.b<=(y:Int)/\(y:Int)<o.t:=by delta jE;simp;constructor;simp!;simp!
def jH(os:List Ob)(x y:Nat):Nat:=os.countP λo=>jE o x y
def gJ(W H:Nat)(f:Nat->Nat->Nat):Nat:=sm W λx=>sm H λy=>f x y
def VN(W H)(f g):gJ W H (λx y=>f x y+g x y)=gJ W H f+gJ W H g:=by simp[gJ,GJ]
def Ux{W H:Nat}{o:Ob}(h1:0<=o.l)(h2:o.l<o.r)(h3:o.r<=W)(h4:0<=o.b)(h5:o.b<o.t)(h6:o.t<=H):(gJ W H (λx y=>if jE o x y=bd then 1 else 0):Int)=o.area:=by
 let e:∀x:Nat,sm H (λy=>if jE o x y=bd then 1 else 0)=if o.l.toNat<=x/\x<o.r.toNat then o.t.toNat-o.b.toNat else 0:=λx=>by
  ext(hx:o.l.toNat<=x/\x<o.r.toNat)
  .rw[if_pos hx];let a:(λy=>if jE o x y=bd then 1 else 0)=λy=>if o.b.toNat<=y/\y<o.t.toNat then 1 else 0:=by simp![rO]
   rw[a,Ib _ _ _ (by lia) H (by lia),Nat.mul_one]
  rw[if_neg hx];let a:(λy=>if jE o x y=bd then 1 else 0)=λ_=>0:=by funext y;rw[if_neg (λz=>hx (by let:=rO.1 z;$_))]
  rw[a,FD]
 dsimp[gJ];rw[show(λx=>sm H<|λy=>if jE o x y=bd then 1 else 0)=λx=>if o.l.toNat<=x/\x<o.r.toNat then o.t.toNat-o.b.toNat else 0 from funext e,Ib _ _ _ (by lia) W (by lia)];simp;congr 1<;>lia
structure Within (W H:Nat) (o:Ob):Prop where
 l:0<=o.l
 w:o.l<o.r
 r:o.r<=W
 b:0<=o.b
 h:o.b<o.t
 t:o.t<=H
theorem Gg:∀{os:List Ob},(∀o∈os,Within W H o)->(gJ W H (jH os):Int)=(os.map Ob.area).sum
 |[],_=>by let:jH []=λ_ _=>0:=ρ;simp![gJ,FD]
 | o::os,h=>by
  let e:jH (o::os)=λx y=>(if jE o x y=bd then 1 else 0)+jH os x y:=by funext x y;$$(jH);simp[ia];lia
  let a:=h o ⋯;rw[e,VN,Int.natCast_add,Ux a.l a.w a.r a.b a.h a.t,Gg λp c=>h p (by simp[c])];simp
theorem Ih{os:List Ob}(ap:os.Pairwise Apart)(x y:Nat):jH os x y<=1:=by
 delta jH;induction os with
 |nil=>simp
 |cons o os b =>
  rw[P']at ap;rw[ia];ext(h:jE o x y=bd)
  .rw[if_pos h];let:os.countP (λo=>jE o x y)=0:=by rw[vj];ext p c d;let a:=ap.1 p c;let:=rO.1 h;let:=rO.1 d;unfold Apart at a;$_
   lia
  rw[if_neg h];$(b ap.2)
def filled{W H:Nat}{os:List Ob}(a:∀o∈os,Within W H o)(ap:os.Pairwise Apart)(ar:(os.map Ob.area).sum=(W:Int)*H){x y:Int}(hx:0<=x)(hx':x<W)(hy:0<=y)(hy':y<H) :
  ∃o∈os,o.l<=x/\x<o.r/\o.b<=y/\y<o.t:=by
 $(aaW λno=>?_);let e0:jH os x.toNat y.toNat=0:=by grind [jH,rO]
 let g:=Gg a;let lt:gJ W H (jH os)<gJ W H (λ_ _=>1):=by$(xa (λi _=>AR λj _=>Ih ap i j) x.toNat (by lia)<|xa (λj _=>Ih ap _ j) y.toNat (by lia) ?_);simp!
 let one:gJ W H (λ_ _=>1)=W*H:=by simp[gJ,Ak]
 lia
def iZ(o:Ob):List (Int×Int):=[(o.l,o.b),(o.l,o.t),(o.r,o.b),(o.r,o.t)]
def tj(os:List Ob):List (Int×Int):=os.flatMap iZ
structure Cuts (o:Ob) (os:List Ob):Prop where
 aU:∀x∈os,o.l<=x.l/\x.l<x.r/\x.r<=o.r/\o.b<=x.b/\x.b<x.t/\x.t<=o.t
 ap:os.Pairwise Apart
 ar:(os.map Ob.area).sum=o.area
theorem Cuts.one{o:Ob}(h:o.ok):Cuts o [o]:=⟨λx hx=>by
 cases ka.1 hx;unfold Ob.ok at h
 lia,ado _ _,⋯⟩
def VD{a:Type}{os:List a}{j:Nat}{x:a}(e:os[j]?=ac x):os=os.take j++x::os.drop (j+1):=by let(h,e):=bg.1 e;simp[<-e]
def Cuts.Ez{o x:Ob}{os d:List Ob}{j:Nat}(h:Cuts o os)(e:os[j]?=ac x)(h':Cuts x d):Cuts o (os.take j++d++os.drop (j+1)):=by
 let m:=VD e;generalize os.take j=A at *;generalize os.drop (j+1)=B at *;$$m;let(g,k,n):=h;let(i,p,q):=h';rw[abO,P']at k;let(r,(l,s),f):=k;$({λy b=>?_,?_,?_})
 .let b||b:=el.1 b
  .let b||b:=el.1 b
   .$(g y (by simp[b]))
   let:=g x ⋯;let:=i y b;$_
  $(g y (by simp[b]))
 .rw[abO,abO];$({{r,p,λy b z c=>?_},s,λy b z c=>?_})
  .let a:=f y b x ⋯;let:=i z c;unfold Apart at *;$_
  let b||b:=el.1 b
  .$(f y b z (by simp[c]))
  let a:=l z c;let:=i y b;unfold Apart at *;$_
 simp?[ft,ft,abz,abz,q,<-n,ft,fR,abz,pR];lia
def Cuts.up (h:o.ok)(h1:o.b<a)(h2:a<o.t):Cuts o [⟨o.l,o.b,o.r,a⟩,⟨o.l,a,o.r,o.t⟩]:=by
 delta Ob.ok at h;$({λx hx=>?_,?_,?_})
 .simp at hx;let rfl||rfl:=hx<;>dsimp<;>lia
 .simp[Apart]
 simp[Ob.area];grind
def Cuts.on (h:o.ok)(h1:o.l<a)(h2:a<o.r):Cuts o [⟨o.l,o.b,a,o.t⟩,⟨a,o.b,o.r,o.t⟩]:=by
 delta Ob.ok at h;$({λx hx=>?_,?_,?_})
 .simp at hx;let rfl||rfl:=hx<;>dsimp<;>lia
 .simp[Apart]
 simp[Ob.area];grind
theorem Cuts.MM{l b r t x c y a:Int}(h1:l<x)(h2:x<c)(h3:c<r)(h4:b<y)(h5:y<a)(h6:a<t):Cuts ⟨l,b,r,t⟩ [⟨l,b,c,y⟩,⟨c,b,r,a⟩,⟨x,a,r,t⟩,⟨l,y,x,t⟩,⟨x,y,c,a⟩]:=by
 $({λx hx=>?_,?_,?_})
 .simp at hx;let rfl||rfl||rfl||rfl||rfl:=hx<;>dsimp<;>lia
 .simp?[P',dV,eT,or_false,forall_eq_or_imp,forall_eq,Apart,abC,and_true];$({{?_,?_,?_,?_},{?_,?_,?_},{?_,?_},?_,?_})<;>first|$_|simp
 simp[Ob.area];grind
theorem Cuts.Kc{l b r t x c y a:Int}(h1:l<x)(h2:x<c)(h3:c<r)(h4:b<y)(h5:y<a)(h6:a<t):Cuts ⟨l,b,r,t⟩ [⟨x,b,r,y⟩,⟨c,y,r,t⟩,⟨l,a,c,t⟩,⟨l,b,x,a⟩,⟨x,y,c,a⟩]:=by
 $({λx hx=>?_,?_,?_})
 .simp?[dV,eT,or_false]at hx;let rfl||rfl||rfl||rfl||rfl:=hx<;>dsimp<;>lia
 .simp?[P',dV,eT,or_false,forall_eq_or_imp,forall_eq,Apart,abC,and_true];$({{?_,?_,?_,?_},{?_,?_,?_},{?_,?_},?_,?_})<;>first|$_|simp
 simp?[fR,aax,pR,aci,Ob.area];grind
theorem Fk{l a:List Int}(p:l.Perm a):l.sum=a.sum:=by
 induction p with
 |nil=>rfl
 |cons x _ b=>simp?[pR,pR,b]
 |swap x y l=>simp?[pR];lia
 |trans _ _ c d=>simp?[c,d]
theorem Cuts.perm{o:Ob}{os b:List Ob}(h:Cuts o os)(p:b.Perm os):Cuts o b :=
 {λx hx=>h.aU x<|p.mem_iff.1 hx,p.symm.pairwise h.ap λ{x y} a=>by unfold Apart at *;lia,by rw[Fk (p.map Ob.area)];$h.ar}
def ag(o:Ob):Ob:={-o.t,o.l,-o.b,o.r}
def aa:Nat->Ob->Ob
 |0,o=>o
 |k+1,o=>ag<|aa k o
structure aD (bx:Ob) (os:List Ob):Prop where
 aU:∀o∈os,bx.l<=o.l/\o.l<o.r/\o.r<=bx.r/\bx.b<=o.b/\o.b<o.t/\o.t<=bx.t
 ap:∀x∈os,∀y∈os,x=y\/Apart x y
 hit:∀p q,bx.l<=p->p<bx.r->bx.b<=q->q<bx.t->∃o∈os,o.l<=p/\p<o.r/\o.b<=q/\q<o.t
 four:∀x∈os,∀n∈os,∀m∈os,∀z∈os,¬(n.r=x.r/\n.b=x.t/\m.l=x.r/\m.t=x.t/\z.l=x.r/\z.b=x.t)
def wN(a:Ob):Ob:={a.l,a.t,a.r,a.t+1}
def wE(a:Ob):Ob:={a.r,a.b,a.r+1,a.t}
def wS(a:Ob):Ob:={a.l,a.b-1,a.r,a.b}
def wW(a:Ob):Ob:={a.l-1,a.b,a.l,a.t}
def walls(a:Ob):List Ob:=[wN a,wE a,wS a,wW a]
def M4 (h:ag x=ag y):x=y:=by
 $$$x;simp![ag]
theorem iL:∀(k:Nat) {x y:Ob},aa k x=aa k y->x=y
 |0,_,_,h=>h
 |k+1,_,_,h=>iL k<|M4 h
def aD.turn{j:Ob}{os:List Ob}(T:aD j os):aD (ag j) (os.map ag) where
 aU:=λo f=>by let(x,hx,rfl):=a5.1 f;let:=T.aU x hx;simp![ag]
 ap:=λa g b i=>by
  let(x,hx,rfl):=a5.1 g;let(y,r,rfl):=a5.1 i;let e||e:=T.ap x hx y r
  .$(ι (by rw[e]))
  right;unfold Apart at *;simp?[ag];lia
 hit:=λp q s t k l=>by simp[ag]at s t k l;let(o,f,k1,k2,k3,k4):=T.hit q (-p-1) k l (by lia) (by lia);$({ag o,a5.2 ⟨o,f,ρ⟩,?_});simp[ag];lia
 four:=λa g b i c u d hd h=>by let(x,hx,rfl):=a5.1 g;let(n,v,rfl):=a5.1 i;let(m,w,rfl):=a5.1 u;let(z,A,rfl):=a5.1 hd;simp[ag]at h;$(T.four m w x hx z A n v (by lia))
def Up(x y:Ob):Prop:=y.b=x.t/\x.l<y.r/\y.l<x.r
instance {x y:Ob}:Decidable (Up x y):=by$$(Up);infer_instance
section
variable{bx:Ob}{os:List Ob}{x y z n m m':Ob}{α:Type}
def kG(a:m∈walls bx)(i:bx.l<=x.l/\x.l<x.r/\x.r<=bx.r/\bx.b<=x.b/\x.b<x.t/\x.t<=bx.t)(u:Up x m):m=wN bx/\x.t=bx.t:=by
 let(d,i2,e,i4,i5,i6):=i;let(c,f,g):=u;simp[walls]at a;let rfl||rfl||rfl||rfl:=a
 .$(⟨ρ,c.symm⟩)
 .$(absurd g<|abE.2 e)
 .$(absurd (show bx.b-1=x.t from c) (by lia))
 $(absurd f<|abE.2 d)
def nK(a:m∈walls bx)(i:bx.l<=x.l/\x.l<x.r/\x.r<=bx.r/\bx.b<=x.b/\x.b<x.t/\x.t<=bx.t)(u:Up (ag x) (ag m)):m=wE bx/\x.r=bx.r:=by
 let(i1,i2,i3,d,i5,e):=i;let(c,f,g):=u;simp[walls]at a;let rfl||rfl||rfl||rfl:=a
 .$(absurd (aba.1<|f)<|abE.2 e)
 .$(⟨ρ,c.symm⟩)
 .$(absurd (aba.1<|g)<|abE.2 d)
 $(absurd (show bx.l-1=x.r from c) (by lia))
def aD.cover(T:aD bx os)(hx:x∈os)(c:x.t<bx.t)(h1:x.l<=p)(h2:p<x.r):∃y∈os,Up x y/\y.l<=p/\p<y.r:=by
 let ix:=T.aU x hx;let(y,b,d,e,k3,k4):=T.hit p x.t ∅ ∅ (by lia) c;$({y,b,?_,d,e});delta Up;let rfl||a:=T.ap x hx y b
 .lia
 delta Apart at a;lia
def aD.next(T:aD bx os)(hx:x∈os)(e:x.t<bx.t)(c:y∈os)(u:Up x y)(h:y.r<x.r):∃z∈os,Up x z/\z.l=y.r:=by
 delta Up at u;let(z,b,d,k1,k2):=T.cover hx e (by lia) h;$({z,b,d,?_});let iy:=T.aU y c;let iz:=T.aU z b;delta Up at d;let rfl||a:=T.ap y c z b
 .lia
 delta Apart at a;$_
def aD.prev(T:aD bx os)(hx:x∈os)(e:x.t<bx.t)(c:y∈os)(u:Up x y)(h:x.l<y.l):∃z∈os,Up x z/\z.r=y.l:=by
 unfold Up at u;let(z,b,d,k1,k2):=T.cover hx e (p:=y.l-1) (by lia) (by lia);$({z,b,d,?_});let iy:=T.aU y c;let iz:=T.aU z b;unfold Up at d;let rfl||a:=T.ap y c z b
 .lia
 grind [Apart]
def aD.tee(T:aD bx os)(hx:x∈os)(b:n∈os)(c:m∈os)(un:Up x n)(en:x.r<=n.r)(e:Up (ag x) (ag m))(em:x.t<=m.t):(x.r<n.r/\m.t=x.t)\/(n.r=x.r/\x.t<m.t):=by
 let jn:=T.aU n b;let jm:=T.aU m c;delta Up at un e;simp?[ag]at e;let f:Apart n m:=by
  let rfl||a:=T.ap n b m c
  .omega
  exact a
 delta Apart at f;ext(g:n.r=x.r)
 .ext(h:m.t=x.t)
  .exfalso;let(z,d,k1,k2,k3,k4):=T.hit x.r x.t ⋯ (by lia) (by lia) (by lia);let i:Apart n z:=by
    let rfl||a:=T.ap n b z d
    .lia
    exact a
   let j:Apart m z:=by
    let rfl||a:=T.ap m c z d
    .lia
    exact a
   delta Apart at i j;$(T.four x hx n b m c z d {g,un.1,by lia,h,by lia,by lia})
  lia
 lia
def mi(x n m:Ob):Prop:=(Up x n/\Up x m/\n.r=m.l)\/(Up x n/\x.r<=n.r/\Up (ag x) (ag m)/\x.t<=m.t)
def cL(x n m:Ob):Prop:=∃k,k<4/\mi (aa k x) (aa k n) (aa k m)
def pG(o):ag (ag<|ag<|ag o)=o:=by simp[ag]
theorem cL.up (h:cL (ag x) (ag n) (ag m)):cL x n m:=by
 let(k,hk,h):=h;let e:∀(k:Nat) (o:Ob),aa k (ag o)=aa (k+1) o:=λk o=>by
  induction k with
  |zero=>rfl
  |succ k ih=>simp![aa]
 simp[e]at h;ext(a:k=3)
 .subst a;$({0,⋯,?_});simp![aa,pG]
 exact{k+1,by lia,h}
def aD.R8(T:aD bx os)(hx:x∈os)(h:mi x n m)(c:n∈os\/n∈walls bx)(hm:m∈os\/m∈walls bx):(n∈os->cL n m x)/\(m∈os->cL m x n):=by
 let i:=T.aU x hx;let no:∀{o:Ob},o∈os->o∈walls bx->False:=λ{o} h h'=>by let:=T.aU o h;simp[walls]at h';let rfl||rfl||rfl||rfl:=h'<;>dsimp[wN,wE,wS,wW]at this<;>$_
 let(un,d,e)||(un,p,d,em):=h
 .let f:n∈os:=c.resolve_right λh=>by let(rfl,_):=kG h i un;let:=d.2.2;dsimp[wN]at e;$_
  let g:m∈os:=hm.resolve_right λh=>by let(rfl,_):=kG h i d;let:=un.2.1;dsimp[wN]at e;$_
  let q:=T.aU n f;let r:=T.aU m g;let(s,u,v):=un;let(j,k,l):=d;$({λ_=>{1,⋯,τ ?_},λ_=>{2,⋯,τ ?_}})
  .dsimp[aa,ag,Up];lia
  dsimp[aa,ag,Up];lia
 let c||c:=c<;>let hm||hm:=hm
 .let q:=T.aU n c;let r:=T.aU m hm;let t:=T.tee hx c hm un p d em;let(s,u,v):=un;let(j,k,l):=d;dsimp[ag]at j k l;let(a,b)||(a,b):=t
  .refine{λ_=>{2,⋯,ι ?_},λ_=>{3,⋯,τ ?_}}
   .dsimp[aa,ag,Up];lia
   dsimp[aa,ag,Up];lia
  refine{λ_=>{1,⋯,τ ?_},λ_=>{3,⋯,ι ?_}}
  .dsimp[aa,ag,Up];lia
  dsimp[aa,ag,Up];lia
 .let q:=T.aU n c;let(rfl,w):=nK hm i d;let(s,u,v):=un;$({λ_=>{1,⋯,τ ?_},λg=>(no g hm).elim});dsimp[aa,ag,Up,wE]at em ⊢;grind
 .let r:=T.aU m hm;let(rfl,w):=kG c i un;let(j,k,l):=d;$({λf=>(no f c).elim,λ_=>{3,⋯,τ ?_}});dsimp[aa,ag,Up,wN]at p j k l ⊢;grind
 exact{λf=>(no f c).elim,λg=>(no g hm).elim}
def lD (h1:x.l=y.l)(h2:x.b=y.b)(h3:x.r=y.r)(h4:x.t=y.t):x=y:=by
 $$$x;simp!
def Nu (h:o∈walls bx):ag o∈walls (ag bx):=by
 let h:o=wN bx\/o=wE bx\/o=wS bx\/o=wW bx:=by simpa[walls]using h
 let rfl||rfl||rfl||rfl:=h
 .rw[show ag (wN bx)=wW (ag bx)from lD (by simp?[ag,wN,wW]<;>lia) (by rfl) (by rfl) (by rfl)];simp[walls]
 simp[ag,wE,wN,walls]
 .rw[show ag (wS bx)=wE (ag bx)from lD (by rfl) (by rfl) (by simp?[ag,wS,wE]<;>lia) (by rfl)];simp[walls]
 simp[ag,wW,wS,walls]
theorem aD.turns (T:aD bx os):∀k,aD (aa k bx) (os.map<|aa k)
 |0=>by show aD bx (os.map λo=>o);rwa[y0]
 |k+1=>by let:=(T.turns k).turn;rwa[fm]at this
theorem vg (h:o∈walls bx):∀k,aa k o∈walls (aa k bx)
 |0=>h
 |k+1=>Nu<|vg h k
theorem cL.ups:∀(k:Nat) {x n m:Ob},cL (aa k x) (aa k n) (aa k m)->cL x n m
 |0,_,_,_,h=>h
 |k+1,_,_,_,h=>cL.ups k<|cL.up h
def aD.close(T:aD bx os)(hx:x∈os)(h:cL x n m)(d:n∈os\/n∈walls bx)(e:m∈os\/m∈walls bx):(n∈os->cL n m x)/\(m∈os->cL m x n):=by let(k,hk,h):=h;let c:∀{o:Ob},o∈os->aa k o∈os.map (aa k):=λ{o} h=>a5.2 ⟨o,h,ρ⟩;let up:∀{o:Ob},(o∈os\/o∈walls bx)->(aa k o∈os.map (aa k)\/aa k o∈walls (aa k bx)):=λ{o} h=>h.imp c<|λh=>vg h k;let(a,b):=(T.turns k).R8 (c hx) h (up d) (up e);$({λz=>cL.ups k<|a<|c z,λz=>cL.ups k<|b<|c z})
def Nb(bx:Ob)(os:List Ob)(o:Ob):Prop:=o∈os\/o∈walls bx
def Nb.ok(T:aD bx os)(a:bx.ok)(h:Nb bx os n):n.l<n.r/\n.b<n.t:=by
 delta Ob.ok at a;let h||h:=h
 .let:=T.aU n h;lia
 let h:n=wN bx\/n=wE bx\/n=wS bx\/n=wW bx:=by simpa[walls]using h
 let rfl||rfl||rfl||rfl:=h<;>simp?[wN,wE,wS,wW]<;>lia
def Nb.ap(T:aD bx os)(a:bx.ok)(h:Nb bx os n)(h':Nb bx os m):n=m\/Apart n m:=by
 let wl:∀{o:Ob},o∈walls bx->o=wN bx\/o=wE bx\/o=wS bx\/o=wW bx:=λ{o} h=>by simpa[walls]using h
 delta Apart;delta Ob.ok at a;let h||h:=h<;>let h'||h':=h'
 .$(T.ap n h m h')
 .let i:=T.aU n h;right;let rfl||rfl||rfl||rfl:=wl h'<;>simp?[wN,wE,wS,wW]<;>$_
 .let i:=T.aU m h';right;let rfl||rfl||rfl||rfl:=wl h<;>simp?[wN,wE,wS,wW]<;>$_
 let rfl||rfl||rfl||rfl:=wl h<;>let rfl||rfl||rfl||rfl:=wl h'<;>first|$(ι ρ)|(right;simp?[wN,wE,wS,wW];$_)
def Uo(hx:x.l<x.r/\x.b<x.t)(om:m.l<m.r/\m.b<m.t)(om':m'.l<m'.r/\m'.b<m'.t)(ap:m=m'\/Apart m m')(h:mi x n m)(h':mi x n m'):m=m':=by
 let e||a:=ap
 .$e
 delta mi Up Apart at *;simp[ag]at *;$_
def F4 (hk:k<4)(hj:j<4)(ox:x.l<x.r/\x.b<x.t)(on:n.l<n.r/\n.b<n.t)(h:Up (aa k x) (aa k n))(h':Up (aa j x) (aa j n)):k=j:=by
 let a:k=0\/k=1\/k=2\/k=3:=by lia
 let c:j=0\/j=1\/j=2\/j=3:=by lia
 delta Up at *;let rfl||rfl||rfl||rfl:=a<;>let rfl||rfl||rfl||rfl:=c<;>first|rfl|(exfalso;simp?[aa,ag]at *;lia)
theorem Hv(k)(h:n=m\/Apart n m):aa k n=aa k m\/Apart (aa k n) (aa k m):=by
 let h||h:=h
 .$(ι (by rw[h]))
 right;induction k with
 |zero=>$h
 |succ k ih=>show Apart (ag<|aa k n) (ag<|aa k m);unfold Apart at *;simp?[ag];lia
theorem mL(k)(h:n.l<n.r/\n.b<n.t):(aa k n).l<(aa k n).r/\(aa k n).b<(aa k n).t:=by
 induction k with
 |zero=>$h
 |succ k ih=>simp![ag,aa]
def mi.up (h:mi x n m):Up x n:=by let(h,_)||(h,_):=h<;>$h
def aD.Ti(T:aD bx os)(a:bx.ok)(hx:x∈os)(f:Nb bx os n)(d:Nb bx os m)(c:Nb bx os m')(h:cL x n m)(h':cL x n m'):m=m':=by let(k,g,h):=h;let(j,i,h'):=h';let e:=Nb.ok T a<|ι hx;let:=F4 g i e (Nb.ok T a f) h.up h'.up;$$this;$(iL k<|Uo (mL k e) (mL k<|Nb.ok T a d) (mL k<|Nb.ok T a c) (Hv k<|Nb.ap T a d c) h h')
def bO(N:List Ob)(x:Ob)(k:Nat):List Ob:=(N.filter λy=>am<|Up (aa k x)<|aa k y).mergeSort λa b=>am<|(aa k a).l<=(aa k b).l
def bD(N:List Ob)(x:Ob):List Ob:=bO N x 0++bO N x 1++bO N x 2++bO N x 3
def gB:y∈bO N x k↔y∈N/\Up (aa k x) (aa k y):=by simp[bO]
def Nn{N:List Ob}{x:Ob}{k:Nat}{i j:Nat}{a b:Ob}(hij:i<=j)(f:(bO N x k)[i]?=ac a)(g:(bO N x k)[j]?=ac b):(aa k a).l<=(aa k b).l:=by ext(e:i=j);simp!;let:=uz (le:=λa b=>am<|(aa k a).l<=(aa k b).l) (by lia) (by lia) (N.filter λy=>am<|Up (aa k x)<|aa k y);let(h,c):=bg.1 f;let(o,d):=bg.1 g;let:=nr.1 this i j h o (by lia);rw[decide_eq_true_eq]at this;rwa[<-c,<-d]
def aD.T7(T:aD bx os)(K:bx.ok)(hx:x∈os)(w:∀y,y∈l↔Nb bx os y/\Up x y)(nd:l.Nodup)(A:∀(i j:Nat) a b,i<=j->l[i]?=ac a->l[j]?=ac b->a.l<=b.l) :
  l≠[]/\(∀(i:Nat) a b,l[i]?=ac a->l[i+1]?=ac b->a.r=b.l)/\(∀a,l[0]?=ac a->a.l<=x.l)/\(∀a,l[l.length-1]?=ac a->x.r<=a.r):=by
 let ix:=T.aU x hx;let wl:∀{o:Ob},o∈walls bx->o=wN bx\/o=wE bx\/o=wS bx\/o=wW bx:=λ{o} h=>by simpa[walls]using h
 ext(C:x.t<bx.t)
 .let room:∀y∈l,y∈os/\Up x y:=λy B=>by
   let(f,d):=(w y).1 B;$({?_,d});let h||h:=f
   .$h
   exfalso;delta Up at d;let rfl||rfl||rfl||rfl:=wl h<;>simp?[wN,wE,wS,wW]at d<;>$_
  let at_:∀{z:Ob},z∈os->Up x z->∃j,l[j]?=ac z:=λ{z} k s=>by let(j,g,e):=nS<|(w z).2 ⟨ι k,s⟩;$({j,by rw[b8 g,e]})
  $({?_,?_,?_,?_})
  .let(y,B,L,_):=T.cover hx C (p:=x.l) (by lia) ∅;$(λz=>by let:=(w y).2 {ι B,L};rw[z]at this;$$$this)
  .ext i a b c u;let(q,v):=room a<|eK c;let(F,G):=room b<|eK u;let M:=T.aU a q;let jb:=T.aU b F;let H:a≠b:=λe=>by$$e;let f:=(bg.1 c);let d:=(bg.1 u);let(f,D):=f;let(d,E):=d;let:=nr.1 nd i (i+1) f d (by lia);simp?[D,E]at this;$(this ρ)
   let sab:=A i (i+1) a b (by lia) c u;let ap:=(T.ap a q b F).resolve_left H;let hle:a.r<=b.l:=by unfold Apart at ap;delta Up at v G;$_
   let(z,k,s,I):=T.next hx C q v (by unfold Up at G;$_);let(j,g):=at_ k s;ext(J:j<=i)
   .let:=A j i z a J g c;$_
   let:=A (i+1) j b z (by lia) u g;lia
  .ext a c;let(q,v):=room a<|eK c;$(aaW λh=>?_);let(z,k,s,I):=T.prev hx C q v (by lia);let(j,g):=at_ k s;let:=A 0 j a z (by lia) c g;let jz:=T.aU z k;$_
  ext a c;let(q,v):=room a<|eK c;$(aaW λh=>?_);let(z,k,s,I):=T.next hx C q v (by lia);let(j,g):=at_ k s;let hjl:=(bg.1 g).1;let:=A j (l.length-1) z a ∅ g c;let M:=T.aU a q;$_
 let only:∀y∈l,y=wN bx:=λy B=>by
  let(f,d):=(w y).1 B;delta Up at d;let h||h:=f
  .let:=T.aU y h;$_
  let rfl||rfl||rfl||rfl:=wl h
  .rfl
  all_goals exfalso;simp?[wE,wS,wW]at d;lia
 let there:wN bx∈l:=(w _).2 {τ (by simp[walls]),by delta Up wN;dsimp;$_};$({λz=>(by rw[z]at there;$$$there),?_,?_,?_})
 .ext i a b c u;exfalso;let N:=only a<|eK c;let O:=only b<|eK u;let(f,D):=bg.1 c;let(d,E):=bg.1 u;let:=nr.1 nd i (i+1) f d (by lia);simp?[D,E,N,O]at this;$(this ρ)
 .ext a c;rw[only a (eK c)];simp?[wN];$_
 ext a c;rw[only a (eK c)];simp?[wN];$_
theorem rj(k):Nb (aa k bx) (os.map<|aa k) (aa k y)↔Nb bx os y:=by
 let wl:∀k y,aa k y∈walls (aa k bx)->y∈walls bx:=λk=>by
  induction k with
  |zero=>$(λy h=>h)
  |succ k j =>
   $(λy h=>j y ?_);let h:ag (aa k y)∈walls (ag<|aa k bx):=h;generalize aa k y=a at h;generalize aa k bx=c at h;let h:ag a=wN (ag c)\/ag a=wE (ag c)\/ag a=wS (ag c)\/ag a=wW (ag c):=by simpa[walls]using h
   let:a=wE c\/a=wS c\/a=wW c\/a=wN c:=by
    let h||h||h||h:=h
    .left;let d:=congrArg Ob.l h;let f:=congrArg Ob.b h;let g:=congrArg Ob.r h;let i:=congrArg Ob.t h;simp?[ag,wN]at d f g i;$(lD (by simp?[wE];$_) (by simp![wE]) (by simp?[wE];$_) (by simp![wE]))
    .right;left;let d:=congrArg Ob.l h;let f:=congrArg Ob.b h;let g:=congrArg Ob.r h;let i:=congrArg Ob.t h;simp?[ag,wE]at d f g i;$(lD (by simp?[wS];$_) (by simp?[wS];lia) (by simp?[wS];$_) (by simp![wS]))
    .right;right;left;let d:=congrArg Ob.l h;let f:=congrArg Ob.b h;let g:=congrArg Ob.r h;let i:=congrArg Ob.t h;simp?[ag,wS]at d f g i;$(lD (by simp?[wW];$_) (by simp![wW]) (by simp?[wW];$_) (by simp![wW]))
    right;right;right;let d:=congrArg Ob.l h;let f:=congrArg Ob.b h;let g:=congrArg Ob.r h;let i:=congrArg Ob.t h;simp?[ag,wW]at d f g i;$(lD (by simp?[wN];$_) (by simp![wN]) (by simp?[wN];$_) (by grind [wN]))
   grind [walls]
 constructor
 .ext (h|h)
  .let(z,o,e):=a5.1 h;rw[<-iL k e];$(ι o)
  $(τ<|wl k y h)
 ext (h|h)
 .$(ι<|a5.2 ⟨y,h,ρ⟩)
 $(τ<|vg h k)
def lB(k:Nat)(h:bx.ok):(aa k bx).ok:=mL k h
def yV(k)(hk:k<4)(o):∃y,aa k y=o:=by
 let a:=pG;let b:k=0\/k=1\/k=2\/k=3:=by lia
 let rfl||rfl||rfl||rfl:=b
 .$(⟨o,ρ⟩)
 .$({ag<|ag<|ag o,a o})
 .$({ag<|ag o,a o})
 $({ag o,a o})
def aD.chain(T:aD bx os)(s:bx.ok)(hx:x∈os)(nd:(os++walls bx).Nodup)(t:k<4):bO (os++walls bx) x k≠[]/\(∀(i:Nat) a b,(bO (os++walls bx) x k)[i]?=ac a->(bO (os++walls bx) x k)[i+1]?=ac b->(aa k a).r=(aa k b).l) /\
  (∀a,(bO (os++walls bx) x k)[0]?=ac a->(aa k a).l<=(aa k x).l)/\(∀a,(bO (os++walls bx) x k)[(bO (os++walls bx) x k).length-1]?=ac a->(aa k x).r<=(aa k a).r):=by
 let u:(bO (os++walls bx) x k).Nodup:=(gj _ _).nodup_iff.2 (k9 n5 nd);let key:=(T.turns k).T7 (lB k s) (a5.2 ⟨x,hx,ρ⟩) (λy=>by
  let(z,rfl):=yV k t y;rw[rj,a5];constructor
  .ext⟨w,hw,e⟩;rw[iL k e]at hw;let(f,g):=gB.1 hw;$({el.1 f,g})
  .ext⟨f,g⟩;$({z,gB.2 {el.2 f,g},ρ})) (hF.2 (u.imp λh e=>h<|iL k e)) (λi j a b o c d=>by
  rw[ee]at c d;let(a',p,rfl):=gs.1 c;let(b',q,rfl):=gs.1 d;$(Nn o p q))
 let(v,A,B,C):=key;refine{λz=>v (by rw[z];rfl),λi a b c d=>A i _ _ (by rw[ee,c];rfl) (by rw[ee,d];rfl),λa c=>B _ (by rw[ee,c];rfl),λa c=>C _ (by simp!)}
def sD (R:α->α->Prop)(l:List α):Prop:=∀(i:Nat) a b,l[i]?=ac a->l[i+1]?=ac b->R a b
def xP (f:sD R A)(g:sD R B)(h:∀a b,A[A.length-1]?=ac a->B[0]?=ac b->R a b):sD R (A++B):=by
 ext i a b c d;ext(j:i+1<A.length)
 .rw[hH (by lia)]at c;rw[hH j]at d;$(f i a b c d)
 ext(k:i<A.length)
 .let e:i=A.length-1:=⋯;rw[hH k,e]at c;rw[hO ∅,show i+1-A.length=0 from by$_]at d;$(h a b c d)
 rw[hO ∅]at c d;$(g (i-A.length) a b c (by grind))
def Bc (a:B≠[]):(A++B)[(A++B).length-1]?=B[B.length-1]?:=by
 let:=ir.2 a;rw[hO (by rw[fk];$_),fk]
 congr 1
 lia
def Rp (a:A≠[]):(A++B)[0]?=A[0]?:=by rw[hH (ir.2 a)]
def aD.tG(T:aD bx os)(f:bx.ok)(hx:x∈os)(nd:(os++walls bx).Nodup)(c:k<4):sD (cL x) (bO (os++walls bx) x k):=by ext i a b d e;refine{k,c,ι {(gB.1<|eK d).2,(gB.1<|eK e).2,(T.chain f hx nd c).2.1 i a b d e}}
def aD.wz(T:aD bx os)(d:bx.ok)(hx:x∈os)(nd:(os++walls bx).Nodup)(e:k<4)(h:j<4)(c:∀o,aa j o=ag (aa k o))(f:(bO (os++walls bx) x k)[(bO (os++walls bx) x k).length-1]?=ac a)(g:(bO (os++walls bx) x j)[0]?=ac b):cL x a b:=by
 $({k,e,τ {(gB.1<|eK f).2,(T.chain d hx nd e).2.2.2 a f,?_,?_}})
 .simp[<-c];$((gB.1<|eK g).2)
 let:=(T.chain d hx nd h).2.2.1 b g;simp![ag]
def aD.yO(T:aD bx os)(c:bx.ok)(hx:x∈os)(nd:(os++walls bx).Nodup)(d:(bD (os++walls bx) x)[i]?=ac a)(f:(bD (os++walls bx) x)[(i+1)%(bD (os++walls bx) x).length]?=ac b):cL x a b:=by
 let s:=(T.chain c hx nd (k:=0) ⋯).1;let n1:=(T.chain c hx nd (k:=1) ⋯).1;let n2:=(T.chain c hx nd (k:=2) ⋯).1;let n3:=(T.chain c hx nd (k:=3) ⋯).1;let g:∀a b,(bO (os++walls bx) x 0)[(bO (os++walls bx) x 0).length-1]?=ac a->(bO (os++walls bx) x 1)[0]?=ac b->cL x a b:=λa b=>T.wz c hx nd ⋯ ⋯ λo=>rfl;let l:∀a b,(bO (os++walls bx) x 1)[(bO (os++walls bx) x 1).length-1]?=ac a->(bO (os++walls bx) x 2)[0]?=ac b->cL x a b:=λa b=>T.wz c hx nd ⋯ ⋯ λo=>rfl;let p:∀a b,(bO (os++walls bx) x 2)[(bO (os++walls bx) x 2).length-1]?=ac a->(bO (os++walls bx) x 3)[0]?=ac b->cL x a b:=λa b=>T.wz c hx nd ⋯ ⋯ λo=>rfl;let q:∀a b,(bO (os++walls bx) x 3)[(bO (os++walls bx) x 3).length-1]?=ac a->(bO (os++walls bx) x 0)[0]?=ac b->cL x a b:=λa b=>T.wz c hx nd (k:=3) (j:=0) ⋯ ⋯ λo=>(pG o).symm;let r:sD (cL x) (bD (os++walls bx) x):=by
  $(xP (xP (xP (T.tG c hx nd ⋯) (T.tG c hx nd ⋯) g) (T.tG c hx nd ⋯) λa b d f=>?_) (T.tG c hx nd ⋯) λa b d f=>?_)
  .rw[Bc n1]at d;$(l a b d f)
  rw[Bc n2]at d;$(p a b d f)
 let hi:=(bg.1 d).1;ext(h:i+1<(bD (os++walls bx) x).length)
 .rw[lr h]at f;$(r i a b d f)
 let e:i+1=(bD (os++walls bx) x).length:=by lia
 rw[e,z7]at f;let t:i=(bD (os++walls bx) x).length-1:=by lia
 rw[t]at d;apply q a b
 .rw[<-(Bc (A:=bO (os++walls bx) x 0++bO (os++walls bx) x 1++bO (os++walls bx) x 2) n3)];$d
 let u:(bD (os++walls bx) x)[0]?=(bO (os++walls bx) x 0)[0]?:=by delta bD;rw[nE,nE,Rp s]
 rwa[<-u]
def iB:y∈bD N x↔y∈N/\∃k,k<4/\Up (aa k x) (aa k y):=by
 delta bD;simp?[el,gB,gB,gB,gB];constructor
 .ext (((h|h)|h)|h)
  .$({h.1,0,⋯,h.2})
  .$({h.1,1,⋯,h.2})
  .$({h.1,2,⋯,h.2})
  $({h.1,3,⋯,h.2})
 ext⟨h,k,hk,u⟩;let a:k=0\/k=1\/k=2\/k=3:=by lia
 let rfl||rfl||rfl||rfl:=a
 .$(ι<|ι<|ι ⟨h,u⟩)
 .$(ι<|ι<|τ ⟨h,u⟩)
 .$(ι<|τ ⟨h,u⟩)
 $(τ ⟨h,u⟩)
def aD.Tw(T:aD bx os)(g:bx.ok)(hx:x∈os)(nd:(os++walls bx).Nodup):(bD (os++walls bx) x).Nodup:=by
 let f:∀k,(bO (os++walls bx) x k).Nodup:=λk=>(gj _ _).nodup_iff.2 (k9 n5 nd);let i:=Nb.ok T g<|ι hx;let cO:∀{j k:Nat},j<4->k<4->j≠k->∀a∈bO (os++walls bx) x j,∀b∈bO (os++walls bx) x k,a≠b:=λ{j k} o p h a c b d e=>by$$e;let(q,s):=gB.1 c;let(h2,u):=gB.1 d;$(h<|F4 o p i (Nb.ok T g<|el.1 q) s u)
 delta bD;rw[hM,hM,hM];$({{{f 0,f 1,cO ⋯ ⋯ ⋯},f 2,λa c b d=>?_},f 3,λa c b d=>?_})
 .let c||c:=el.1 c
  .$(cO ⋯ ⋯ ⋯ a c b d)
  $(cO ⋯ ⋯ ⋯ a c b d)
 let c||c:=el.1 c
 .let c||c:=el.1 c
  .$(cO ⋯ ⋯ ⋯ a c b d)
  $(cO ⋯ ⋯ ⋯ a c b d)
 $(cO ⋯ ⋯ ⋯ a c b d)
def aO (l:List α)(n m:α):Prop:=∃i,l[i]?=ac n/\l[(i+1)%l.length]?=ac m
def aD.et(T:aD bx os)(b:bx.ok)(hx:x∈os)(nd:(os++walls bx).Nodup)(c:Nb bx os n)(j:Nb bx os m):aO (bD (os++walls bx) x) n m↔cL x n m:=by
 constructor
 .ext⟨i,l,o⟩;$(T.yO b hx nd l o)
 ext h;let p:n∈bD (os++walls bx) x:=by let(k,q,f):=h;$(iB.2 {el.2 c,k,q,f.up})
 let(i,hi,e):=nS p;let e:(bD (os++walls bx) x)[i]?=ac n:=by rw[b8 hi,e]
 let d:(i+1)%(bD (os++walls bx) x).length<(bD (os++walls bx) x).length:=aca _ (by lia);let a:=b8 d;generalize (bD (os++walls bx) x)[(i+1)%(bD (os++walls bx) x).length]=m' at a;let g:=el.1 (iB.1<|eK a).1;let:=T.Ti b hx c j g h<|T.yO b hx nd e a;$$this;$(⟨i,e,a⟩)
def aD.C5(T:aD bx os)(c:bx.ok)(hx:x∈os)(nd:(os++walls bx).Nodup)(h:aO (bD (os++walls bx) x) n m):(n∈os->aO (bD (os++walls bx) n) m x)/\(m∈os->aO (bD (os++walls bx) m) x n):=by
 let d:Nb bx os n:=by let(i,e,_):=h;$(el.1 (iB.1<|eK e).1)
 let f:Nb bx os m:=by let(i,_,e):=h;$(el.1 (iB.1<|eK e).1)
 let(a,b):=T.close hx ((T.et c hx nd d f).1 h) d f;$({λz=>(T.et c z nd f<|ι hx).2 (a z),λz=>(T.et c z nd (ι hx) d).2 (b z)})
def aB (f:α->Nat):List α->Nat
 |[]=>0
 |a::l=>f a+aB f l
theorem uY (f):∀l b:List α,aB f (l++b)=aB f l+aB f b
 |[],b=>by simp[aB]
 |a::l,b=>by show f a+aB f (l++b)=f a+aB f l+aB f b;rw[uY f l b];lia
theorem cZ:∀{l:List α},(∀a∈l,f a=g a)->aB f l=aB g l
 |[],_=>rfl
 |a::l,h=>by show f a+aB f l=g a+aB g l;rw[h a ⋯,cZ λb c=>h b (by simp[c])]
theorem jg (f g):∀l:List α,aB (λa=>f a+g a) l=aB f l+aB g l
 |[]=>rfl
 |a::l=>by show f a+g a+aB (λa=>f a+g a) l=f a+aB f l+(g a+aB g l);rw[jg f g l];lia
theorem sQ (c):∀l:List α,aB (λ_=>c) l=c*l.length
 |[]=>rfl
 |a::l=>by show c+aB (λ_=>c) l=c*(l.length+1);simp?[sQ c l,Nat.mul_add];lia
theorem ud (p):∀l:List α,aB (λa=>if p a=bd then 1 else 0) l=l.countP p
 |[]=>rfl
 |a::l=>by show(if p a=bd then 1 else 0)+aB (λa=>if p a=bd then 1 else 0) l=_;simp?[ud p l,ia];lia
theorem wa (p:α->d->Bool)(l:List α)(c:List d):aB (λa=>c.countP<|p a) l=aB (λb=>l.countP λa=>p a b) c:=by
 induction l with
 |nil=>show 0=_;simp[show aB (λb=>adR (λa=>p a b) []) c=aB (λ_=>0) c from ρ,sQ,Nat.zero_mul]
 |cons a l e=>show c.countP (p a)+aB (λa=>c.countP<|p a) l=_;rw[e,<-ud,<-jg];$(cZ λb _=>?_);simp[ia];lia
theorem gh (p q:α->Bool)(l:List α):l.countP p=(l.countP λa=>p a&&q a)+l.countP λa=>p a&&!q a:=by
 induction l with
 |nil=>rfl
 |cons a l b=>simp?[ia,b];cases p a<;>cases q a<;>simp<;>lia
theorem mv{α:Type}{p:α->Bool}{l:List α}(nd:l.Nodup)(ex:∃a∈l,p a=bd)(un:∀a∈l,∀b∈l,p a=bd->p b=bd->a=b):l.countP p=1:=by
 induction l with
 |nil=>simp!
 |cons c l i =>
  rw[iN]at nd;rw[ia];ext(e:p c=bd)
  .rw[if_pos e];let:l.countP p=0:=by rw[vj];ext b f h;let:=un c ⋯ b (by simp[f]) e h;$$this;$(nd.1 f)
   lia
  rw[if_neg e];let(a,d,g):=ex;let rfl||d:=dV.1 d
  .cases e g
  rw[i nd.2 ⟨a,d,g⟩ λa d b f=>un a (by simp[d]) b (by simp[f])]
def aD.Bp(T:aD bx os)(f:bx.ok)(c:Nb bx os z)(hx:x∈os)(u:Up z x)(h1:z.l<=p)(h2:p<z.r):∃y∈os,Up z y/\y.l<=p/\p<y.r:=by
 let ix:=T.aU x hx;let oz:=Nb.ok T f c;let wl:∀{o:Ob},o∈walls bx->o=wN bx\/o=wE bx\/o=wS bx\/o=wW bx:=λ{o} h=>by simpa[walls]using h
 let hb:bx.l<=z.l/\z.r<=bx.r/\bx.b<=z.t/\z.t<bx.t:=by
  delta Up at u;let h||h:=c
  .let:=T.aU z h;$_
  let rfl||rfl||rfl||rfl:=wl h<;>simp?[wN,wE,wS,wW]at u ⊢<;>$_
 let(y,d,g,i,k3,k4):=T.hit p z.t ∅ ∅ ∅ ∅;$({y,d,?_,g,i});delta Up;let e||a:=Nb.ap T f c (ι d)
 .$$e;lia
 delta Apart at a;lia
def aD.firsts(T:aD bx os)(e:bx.ok)(nd:os.Nodup)(f:Nb bx os z):(os.countP λx=>am (Up z x)&&am (z.l<x.l))=os.countP λx=>am (Up z x)&&am (x.r<z.r):=by
 ext(h:∃x∈os,Up z x)
 .let(x,hx,u):=h;let s:=Nb.ok T e f;let c1:=gh (λx=>am<|Up z x) (λx=>am<|z.l<x.l) os;let c2:=gh (λx=>am<|Up z x) (λx=>am<|x.r<z.r) os;let f1:(os.countP λa=>am (Up z a)&&!am (z.l<a.l))=1:=by
   apply mv nd
   .let(y,g,i,t,v):=T.Bp e f hx u ⋯ s.1;$({y,g,by simp[i];$_})
   ext a c b d j k;simp at j k;let w:=T.aU a c;let A:=T.aU b d;$((T.ap a c b d).resolve_right λq=>?_);grind [Apart,Up]
  let f2:(os.countP λa=>am (Up z a)&&!am (a.r<z.r))=1:=by
   apply mv nd
   .let(y,g,i,t,v):=T.Bp e f hx u (p:=z.r-1) (by lia) (by lia);$({y,g,by simp[i];lia})
   ext a c b d j k;simp at j k;let w:=T.aU a c;let A:=T.aU b d;$((T.ap a c b d).resolve_right λq=>?_);grind [Apart,Up]
  simp!
 let o:∀q:Ob->Bool,(os.countP λx=>am (Up z x)&&q x)=0:=by simp!
 simp[o]
def aD.Je(T:aD bx os)(f:bx.ok)(hx:x∈os){N:List Ob}(c:∀y,y∈N↔Nb bx os y)(nd:N.Nodup) :
  (N.countP λz=>am (Up x z)&&am (x.r<z.r))+(N.countP λz=>am (Up (ag x)<|ag z)&&am ((ag z).l<(ag x).l))+(if x.t=bx.t/\x.r=bx.r then 1 else 0)=1:=by
 let i:=T.aU x hx;let wl:∀{o:Ob},o∈walls bx->o=wN bx\/o=wE bx\/o=wS bx\/o=wW bx:=λ{o} h=>by simpa[walls]using h
 let M:wN bx∈N:=(c _).2 (τ (by simp[walls]));let O:wE bx∈N:=(c _).2 (τ (by simp[walls]));let Q:∀a∈N,∀b∈N,(am (Up x a)&&am (x.r<a.r))=bd->(am (Up x b)&&am (x.r<b.r))=bd->a=b:=λa e b k d j=>by simp at d j;let E:=Nb.ok T f<|(c a).1 e;let F:=Nb.ok T f<|(c b).1 k;$((Nb.ap T f ((c a).1 e)<|(c b).1 k).resolve_right λq=>?_);unfold Apart at q;delta Up at d j;$_
 let R:∀a∈N,∀b∈N,(am (Up (ag x)<|ag a)&&am ((ag a).l<(ag x).l))=bd->(am (Up (ag x)<|ag b)&&am ((ag b).l<(ag x).l))=bd->a=b:=λa e b k d j=>by simp at d j;let E:=Nb.ok T f<|(c a).1 e;let F:=Nb.ok T f<|(c b).1 k;$((Nb.ap T f ((c a).1 e)<|(c b).1 k).resolve_right λq=>?_);unfold Apart at q;delta Up at d j;simp?[ag]at d j;$_
 obtain⟨n,A,un,Y⟩:∃n∈N,Up x n/\x.r<=n.r:=by
  ext(S:x.t<bx.t)
  .let(y,G,H,U,Z):=T.cover hx S (p:=x.r-1) ⋯ (by lia);$({y,(c y).2 (ι G),H,by lia})
  $({wN bx,M,by delta Up wN;dsimp;$_,by simp?[wN];$_})
 obtain⟨m,B,g,em⟩:∃m∈N,Up (ag x) (ag m)/\x.t<=m.t:=by
  ext(S:x.r<bx.r)
  .let(y',V,H,U,Z):=T.turn.cover (a5.2 ⟨x,hx,ρ⟩) (by simp?[ag];$_) (p:=(ag x).l) ⋯ (by simp?[ag];$_);let(y,G,rfl):=a5.1 V;$({y,(c y).2 (ι G),H,by simp?[ag]at U;lia})
  $({wE bx,O,by$$(Up);simp?[ag,wE];$_,by simp?[wE];$_})
 let W:∀{q:Ob->Bool},(∃a∈N,q a=bd)->(∀a∈N,∀b∈N,q a=bd->q b=bd->a=b)->N.countP q=1:=λex un=>mv nd ex un;let c0:∀{q:Ob->Bool},(∀a∈N,q a≠true)->N.countP q=0:=λh=>vj.2 h;let C:∀a∈N,(am (Up x a)&&am (x.r<a.r))=bd->a=n:=λa e d=>by simp at d;let E:=Nb.ok T f<|(c a).1 e;let F:=Nb.ok T f<|(c n).1 A;$((Nb.ap T f ((c a).1 e)<|(c n).1 A).resolve_right λq=>?_);unfold Apart at q;delta Up at d un;$_
 let D:∀a∈N,(am (Up (ag x)<|ag a)&&am ((ag a).l<(ag x).l))=bd->a=m:=λa e d=>by simp at d;let E:=Nb.ok T f<|(c a).1 e;let F:=Nb.ok T f<|(c m).1 B;$((Nb.ap T f ((c a).1 e)<|(c m).1 B).resolve_right λq=>?_);unfold Apart at q;delta Up at d g;simp?[ag]at d g;$_
 let s:x.r<n.r->(N.countP λz=>am (Up x z)&&am (x.r<z.r))=1:=λh=>W {n,A,by simp[un,h]} Q;let u:¬x.r<n.r->(N.countP λz=>am (Up x z)&&am (x.r<z.r))=0:=λh=>c0 λa e d=>by let:=C a e d;$$this;simp?[ec,decide_eq_true_eq]at d;$(h d.2)
 let v:x.t<m.t->(N.countP λz=>am (Up (ag x)<|ag z)&&am ((ag z).l<(ag x).l))=1:=λh=>W {m,B,by simp?[ec,decide_eq_true_eq];$({g,by simp?[ag];$_})} R;let w:¬x.t<m.t->(N.countP λz=>am (Up (ag x)<|ag z)&&am ((ag z).l<(ag x).l))=0:=λh=>c0 λa e d=>by let:=D a e d;$$this;simp?[ec,decide_eq_true_eq]at d;let:=d.2;simp?[ag]at this;lia
 let I||wn:=(c n).1 A<;>let J||X:=(c m).1 B
 .let jn:=T.aU n I;let jm:=T.aU m J;rw[if_neg (by unfold Up at un;$_)];let(a,b)||(a,b):=T.tee hx I J un Y g em
  .rw[s a,w (by lia)]
  rw[u (by lia),v b]
 .let jn:=T.aU n I;let(rfl,K):=nK X i g;let L:=un.1;rw[u ∅,v (by let:=g.2.1;dsimp[ag,wE]at this ⊢;$_),if_neg ∅]
 .let jm:=T.aU m J;let(rfl,K):=kG wn i un;let L:m.l=x.r:=g.1;rw[s (by let:=un.2.2;dsimp[wN]at this ⊢;$_),w ∅,if_neg ∅]
 let(rfl,L):=kG wn i un;let(rfl,K):=nK X i g;rw[u (by dsimp[wN];$_),w (by dsimp[wE];$_),if_pos ⟨L,K⟩]
def nf(k:Nat)(z x:Ob):Bool:=am (Up (aa k z)<|aa k x)&&am ((aa k z).l<(aa k x).l)
def nl(k:Nat)(z x:Ob):Bool:=am (Up (aa k z)<|aa k x)&&am ((aa k x).r<(aa k z).r)
def on(k:Nat)(z x:Ob):Bool:=am<|Up (aa k z)<|aa k x
def xG(z x):Up z x↔Up (ag<|ag x) (ag<|ag z):=by delta Up;simp[ag];lia
def ex(k:Nat)(x z:Ob):Bool:=am (Up (aa k x)<|aa k z)&&am ((aa k x).r<(aa k z).r)
def st(k:Nat)(x z:Ob):Bool:=am (Up (aa k x)<|aa k z)&&am ((aa k z).l<(aa k x).l)
def JY(z x):nf 0 z x=ex 2 x z:=by
 delta nf ex;simp[show am (Up (aa 0 z)<|aa 0 x)=am (Up (aa 2 x)<|aa 2 z)from decide_eq_decide.2<|xG z x]
 congr 1;apply decide_eq_decide.2;simp[aa,ag]
def Kt(z x):nl 0 z x=st 2 x z:=by
 delta nl st;simp[show am (Up (aa 0 z)<|aa 0 x)=am (Up (aa 2 x)<|aa 2 z)from decide_eq_decide.2<|xG z x]
 congr 1;apply decide_eq_decide.2;simp[aa,ag]
def wZ(k)(o):aa (k+4) o=aa k o:=pG<|aa k o
theorem mR(j):∀(k:Nat) (o:Ob),aa (j+k) o=aa k (aa j o)
 |0,_=>rfl
 |k+1,o=>by show ag (aa (j+k) o)=ag (aa k<|aa j o);rw[mR j k o]
def OS(k)(z x):nf k z x=ex (k+2) x z:=by let:=JY (aa k z)<|aa k x;assumption
def OG(k)(z x):nl k z x=st (k+2) x z:=by let:=Kt (aa k z)<|aa k x;assumption
def rE(k)(x z):st (k+4) x z=st k x z:=by simp[st,wZ]
def vC(k:Nat){l:List Ob}(h:l.Nodup):(l.map<|aa k).Nodup:=hF.2 (h.imp λa e=>a<|iL k e)
def aD.OR(T:aD bx os)(a:bx.ok)(nd:os.Nodup)(b:Nb bx os z)(k:Nat):os.countP (nf k z)=os.countP (nl k z):=by let:=(T.turns k).firsts (lB k a) (vC k nd) ((rj k).2 b);simp at this;$this
def aD.corner(T:aD bx os)(a:bx.ok)(hx:x∈os)(nd:(os++walls bx).Nodup)(b:k<4) :
  (os++walls bx).countP (λz=>am (Up (aa k x)<|aa k z)&&am ((aa k x).r<(aa k z).r))+(os++walls bx).countP (λz=>am (Up (aa (k+1) x)<|aa (k+1) z)&&am ((aa (k+1) z).l<(aa (k+1) x).l))+(if(aa k x).t=(aa k bx).t/\(aa k x).r=(aa k bx).r then 1 else 0)=1:=by
 let:=(T.turns k).Je (lB k a) (a5.2 ⟨x,hx,ρ⟩) (λy=>by
  let(z,rfl):=yV k b y;rw[rj,a5];constructor
  .ext⟨w,hw,e⟩;simp?[iL k e]at hw;$(el.1 hw)
  $(λh=>{z,el.2 h,ρ})) (vC k nd)
 simp?[nA]at this;$this
def aD.outer(T:aD bx os)(i:bx.ok)(nd:os.Nodup)(k:Nat):aB (λx=>if(aa k x).t=(aa k bx).t/\(aa k x).r=(aa k bx).r then 1 else 0) os=1:=by
 let c:=T.turns k;let f:=lB k i;let e:aB (λx=>if(aa k x).t=(aa k bx).t/\(aa k x).r=(aa k bx).r then 1 else 0) os=os.countP λx=>am ((aa k x).t=(aa k bx).t/\(aa k x).r=(aa k bx).r):=by grind [ud]
 rw[e];unfold Ob.ok at f;apply mv nd
 .let(o,g,k1,k2,k3,k4):=c.hit ((aa k bx).r-1) ((aa k bx).t-1) (by lia) (by lia) (by lia) (by lia);let(a,d,rfl):=a5.1 g;let:=c.aU _ g;$({a,d,by rw[decide_eq_true_eq];lia})
 ext a d b h j l;let ja:=c.aU _<|a5.2 ⟨a,d,ρ⟩;let jb:=c.aU _<|a5.2 ⟨b,h,ρ⟩;$(iL k ((c.ap _ (a5.2 ⟨a,d,ρ⟩) _<|a5.2 ⟨b,h,ρ⟩).resolve_right λq=>?_));grind [Apart]
def cc(f:Nat->Nat):Nat:=f 0+f 1+f 2+f 3
def zF (f:Nat->α->Nat)(l:List α):aB (λa=>cc λk=>f k a) l=cc λk=>aB (f k) l:=by simp[cc,jg]
def aD.pairs(T:aD bx os)(h:bx.ok)(nd:(os++walls bx).Nodup):2*aB (λz=>cc λk=>os.countP<|nf k z) (os++walls bx)+4=4*os.length:=by
 let e:=(hM.1 nd).1;let b:∀k,aB (λz=>os.countP<|nf k z) (os++walls bx)=aB (λx=>(os++walls bx).countP (ex (k+2) x)) os:=by simp[wa,OS]
 let d:∀k,aB (λz=>os.countP<|nf k z) (os++walls bx)=aB (λx=>(os++walls bx).countP (st (k+2) x)) os:=λk=>by rw[cZ (g:=λz=>os.countP<|nl k z) λz o=>T.OR h e (el.1 o) k,wa];simp[OG]
 let j:∀k x,(os++walls bx).countP (ex (k+4) x)=(os++walls bx).countP (ex k x):=λk x=>by congr 1;funext z;$((λk x z=>by simp[ex,wZ]) k x z)
 let i:∀k x,(os++walls bx).countP (st (k+4) x)=(os++walls bx).countP (st k x):=λk x=>by congr 1;funext z;$(rE k x z)
 let c:∀k,k<4->aB (λx=>(os++walls bx).countP (ex k x)) os+aB (λx=>(os++walls bx).countP (st (k+1) x)) os+1=os.length:=λk p=>by let a:=cZ (l:=os) (f:=λx=>(os++walls bx).countP (ex k x)+(os++walls bx).countP (st (k+1) x)+(if(aa k x).t=(aa k bx).t/\(aa k x).r=(aa k bx).r then 1 else 0)) (g:=λ_=>1) λx hx=>T.corner h hx nd p;simpa only[jg,jg,sQ,T.outer h e k,Nat.one_mul]using a
 let c1:=c 1 ⋯;let q:=c 3 ⋯;let a1:=b 1;let s:=b 2;let u:=b 3;let b0:=d 0;let v:=d 2;let w:=d 3;rw[cZ λx _=>j 0 x]at s;rw[cZ (g:=λx=>(os++walls bx).countP (ex 1 x)) λx _=>j 1 x]at u;rw[cZ (g:=λx=>(os++walls bx).countP (st 0 x)) λx _=>i 0 x]at v;rw[cZ (g:=λx=>(os++walls bx).countP (st 0 x)) λx _=>i 0 x]at q;rw[zF];grind [cc]
def aD.Mx(T:aD bx os)(c:bx.ok)(nd:os.Nodup)(d:Nb bx os z)(h:∃x∈os,Up z x):(os.countP λx=>am<|Up z x)=(os.countP λx=>am (Up z x)&&am (z.l<x.l))+1:=by
 let(x,hx,u):=h;let j:=Nb.ok T c d;rw[gh (λx=>am<|Up z x) (λx=>am<|z.l<x.l) os]
 congr 1;apply mv nd
 .let(y,k,o,k1,k2):=T.Bp c d hx u ⋯ j.1;$({y,k,by simp[o];$_})
 ext a e b f g i;simp at g i;let ja:=T.aU a e;let jb:=T.aU b f;$((T.ap a e b f).resolve_right λq=>?_);unfold Apart at q;delta Up at g i;$_
def aD.Lm(T:aD bx os)(a:bx.ok)(nd:os.Nodup)(b:Nb bx os z)(k:Nat)(h:∃x∈os,on k z x=bd):os.countP (on k z)=os.countP (nf k z)+1:=by
 let:=(T.turns k).Mx (lB k a) (vC k nd) ((rj k).2 b) (by let(x,hx,u):=h;$({aa k x,a5.2 ⟨x,hx,ρ⟩,of_decide_eq_true u}))
 simp at this;$this
def Qv (h:∀x∈os,on k z x=bi):os.countP (on k z)=0/\os.countP (nf k z)=0:=by constructor;simp!;rw[vj];ext x hx e;let:nf k z x=(on k z x&&am ((aa k z).l<(aa k x).l)):=ρ;simp!
def aD.Pa(T:aD bx os)(p:bx.ok)(nd:os.Nodup)(q:z∈walls bx):cc (λk=>os.countP<|on k z)=cc (λk=>os.countP<|nf k z)+1:=by
 let wl:z=wN bx\/z=wE bx\/z=wS bx\/z=wW bx:=by simpa[walls]using q
 let s:=p;unfold Ob.ok at s;let(a,d,a1,a2,a3,a4):=T.hit bx.l bx.b (by lia) (by lia) (by lia) (by lia);let(b,e,b1,b2,b3,b4):=T.hit (bx.r-1) (bx.t-1) (by lia) (by lia) (by lia) (by lia);let ja:=T.aU a d;let jb:=T.aU b e;let no:∀k,(∀x,(bx.l<=x.l/\x.l<x.r/\x.r<=bx.r/\bx.b<=x.b/\x.b<x.t/\x.t<=bx.t)->¬Up (aa k z) (aa k x))->os.countP (on k z)=0/\os.countP (nf k z)=0:=λk h=>Qv λx hx=>decide_eq_false<|h x<|T.aU x hx;let c:∀k,(∃x∈os,Up (aa k z)<|aa k x)->os.countP (on k z)=os.countP (nf k z)+1:=λk ⟨x,hx,u⟩=>T.Lm p nd (τ q) k {x,hx,decide_eq_true u};delta cc;dsimp;let rfl||rfl||rfl||rfl:=wl
 .let f:=no 0 (λx i u=>by simp?[aa,ag,Up,wN]at u;$_);let g:=no 1 (λx i u=>by simp?[aa,ag,Up,wN]at u;$_);let j:=no 3 (λx i u=>by simp?[aa,ag,Up,wN]at u;$_);let o:=c 2 {b,e,by simp?[aa,ag,Up,wN];$_};lia
 .let f:=no 0 (λx i u=>by simp?[aa,ag,Up,wE]at u;$_);let g:=no 1 (λx i u=>by simp?[aa,ag,Up,wE]at u;$_);let o:=no 2 (λx i u=>by simp?[aa,ag,Up,wE]at u;$_);let j:=c 3 {b,e,by simp?[aa,ag,Up,wE];$_};lia
 .let g:=no 1 (λx i u=>by simp?[aa,ag,Up,wS]at u;$_);let o:=no 2 (λx i u=>by simp?[aa,ag,Up,wS]at u;$_);let j:=no 3 (λx i u=>by simp?[aa,ag,Up,wS]at u;$_);let f:=c 0 {a,d,by simp?[aa,ag,Up,wS];$_};lia
 let f:=no 0 (λx i u=>by simp?[aa,ag,Up,wW]at u;$_);let o:=no 2 (λx i u=>by simp?[aa,ag,Up,wW]at u;$_);let j:=no 3 (λx i u=>by simp?[aa,ag,Up,wW]at u;$_);let g:=c 1 {a,d,by simp?[aa,ag,Up,wW];$_};lia
def aD.uZ(T:aD bx os)(c:bx.ok)(hx:x∈os)(nd:(os++walls bx).Nodup)(p:k<4):(os++walls bx).countP (on k x)=os.countP (nf k x)+1:=by
 let(ne,_,s,_):=T.chain c hx nd p;let sp:=gh (on k x) (λz=>am<|(aa k x).l<(aa k z).l)<|os++walls bx;let u:((os++walls bx).countP λa=>on k x a&&!am ((aa k x).l<(aa k a).l))=1:=by
  apply mv nd
  .obtain⟨a,d⟩:∃a,(bO (os++walls bx) x k)[0]?=ac a:={_,b8<|ir.2 ne};let v:=gB.1<|eK d;let:=s a d;$({a,v.1,?_});simp![on]
  ext a d b f g h;unfold on at g h;simp at g h;let oa:=mL k<|Nb.ok T c<|el.1 d;let ob:=mL k<|Nb.ok T c<|el.1 f;$(iL k ((Hv k<|Nb.ap T c (el.1 d)<|el.1 f).resolve_right λq=>?_));grind [Apart,Up]
 let A:((os++walls bx).countP λa=>on k x a&&am ((aa k x).l<(aa k a).l))=os.countP (nf k x):=by
  rw[mo];let:((walls bx).countP λa=>on k x a&&am ((aa k x).l<(aa k a).l))=0:=by
   rw[vj];ext w hw e;unfold on at e;simp at e;let i:=(T.turns k).aU _ (a5.2 ⟨x,hx,ρ⟩);let j:=vg hw k;let o:=lB k c;let j:aa k w=wN (aa k bx)\/aa k w=wE (aa k bx)\/aa k w=wS (aa k bx)\/aa k w=wW (aa k bx):=by simp![walls]
   unfold Up at e;let q||q||q||q:=j<;>rw[q]at e<;>simp?[wN,wE,wS,wW]at e<;>$_
  rw[this];rfl
 simp?[sp,u,A]
def DV(z x)(k):on k z x=on (k+2) x z:=by$(decide_eq_decide.2<|xG _ _)
def GC(k)(z x):on (k+4) z x=on k z x:=by simp[on,wZ]
def P6(l:List Ob)(x:Ob):cc (λk=>l.countP λz=>on k z x)=cc λk=>l.countP (on k x):=by
 let e:∀k,(l.countP λz=>on k z x)=l.countP (on (k+2) x):=λk=>by congr 1;funext z;$(DV z x k)
 let f:∀k,l.countP (on (k+4) x)=l.countP (on k x):=λk=>by congr 1;funext z;$(GC k x z)
 grind [cc]
def aD.ties(T:aD bx os)(a:bx.ok)(nd:(os++walls bx).Nodup):aB (λx=>cc λk=>os.countP<|on k x) os+2*aB (λx=>cc λk=>(walls bx).countP (on k x)) os=6*os.length+2:=by
 let b:=(hM.1 nd).1;let p:=T.pairs a nd;rw[uY]at p;let w1:aB (λz=>cc λk=>os.countP<|on k z) (walls bx)=aB (λz=>cc λk=>os.countP<|nf k z) (walls bx)+4:=by simp?[cZ (g:=λz=>(cc λk=>os.countP<|nf k z)+1) λz c=>T.Pa a b c,jg];rfl
 let w2:aB (λz=>cc λk=>os.countP<|on k z) (walls bx)=aB (λx=>cc λk=>(walls bx).countP (on k x)) os:=by rw[zF];let:∀k,aB (λz=>os.countP<|on k z) (walls bx)=aB (λx=>(walls bx).countP λz=>on k z x) os:=λk=>wa _ _ _;rw[show(cc λk=>aB (λz=>os.countP<|on k z)<|walls bx)=cc λk=>aB (λx=>(walls bx).countP λz=>on k z x) os from congrArg cc (funext this),<-zF];$(cZ λx _=>P6 _ x)
 let r1:aB (λx=>cc λk=>(os++walls bx).countP (on k x)) os=aB (λx=>cc λk=>os.countP<|nf k x) os+4*os.length:=by
  rw[cZ (g:=λx=>(cc λk=>os.countP<|nf k x)+4) λx hx=>by
   delta cc;simp?[T.uZ a hx nd (k:=0) ⋯,T.uZ a hx nd (k:=1) ⋯,T.uZ a hx nd (k:=2) ⋯,T.uZ a hx nd (k:=3) ⋯]
   lia,jg,sQ]
 let r2:aB (λx=>cc λk=>(os++walls bx).countP (on k x)) os=aB (λx=>cc λk=>os.countP<|on k x) os+aB (λx=>cc λk=>(walls bx).countP (on k x)) os:=by rw[<-jg];$(cZ λx _=>?_);delta cc;simp;lia
 lia
def fO (l:List α):List (α×α):=l.zip<|l.drop 1++l.take 1
def FU(l:List α)(h:i<l.length):(l.drop 1++l.take 1)[i]?=l[(i+1)%l.length]?:=by
 ext(a:i+1<l.length)
 .rw[hH (by rw[iW];$_),ab6,lr a,afL]
 let e:i+1=l.length:=⋯;rw[hO (by rw[iW];$_),e,z7,iW,show i-(l.length-1)=0 from by$_];simp
def D1(l:List α):(l.drop 1++l.take 1).length=l.length:=by simp?[fk,iW,f'];lia
theorem DJ{l:List α}{n m:α}:(n,m)∈fO l↔aO l n m:=by
 delta fO aO;constructor
 .ext h;let(i,hi,e):=nS h;let a:i<l.length:=by grind
  let e:(l.zip<|l.drop 1++l.take 1)[i]?=ac (n,m):=by rw[b8 hi,e]
  rw[aam]at e;$({i,e.1,by rw[<-FU l a];$(e.2)})
 ext⟨i,b,c⟩;let a:=(bg.1 b).1;$(eK (i:=i) ?_);rw[aam];$({b,by rw[FU l a];$c})
def xN(l:List α):(fO l).map (·.1)=l:=by$(List.map_fst_zip (by rw[D1];$(eS _)))
def Sd(l:List α):(fO l).map (·.2)=l.drop 1++l.take 1:=by$(acz (by rw[D1];$(eS _)))
def Ei(l:List α):(fO l).length=l.length:=by let:=congrArg List.length<|xN l;simp!
def Oo(l:List α):(l.drop 1++l.take 1).Perm l:=List.perm_append_comm.trans (by rw[tz])
end
structure eV {α:Type}(rooms walls:List α) (ring:α->List α):Prop where
 ie:rooms.Nodup
 cO:∀x∈rooms,x∉walls
 nd:∀x∈rooms,(ring x).Nodup
 len:∀x∈rooms,3<=(ring x).length
 mem:∀x∈rooms,∀y∈ring x,y∈rooms\/y∈walls
 fB:∀x∈rooms,x∉ring x
 sym:∀x∈rooms,∀y∈rooms,y∈ring x->x∈ring y
 gx:∀x∈rooms,∀n m,aO (ring x) n m->n∈rooms->aO (ring n) m x
 gb:∀x∈rooms,∀n m,aO (ring x) n m->m∈rooms->aO (ring m) x n
structure Order {α:Type}(lt:α->α->Bool):Prop where
 fB:∀a,lt a a=bi
 tr:∀a b c,lt a b=bd->lt b c=bd->lt a c=bd
 cG:∀a b,a≠b->lt a b=bd\/lt b a=bd
section
variable{α:Type}{rooms walls:List α}{ring:α->List α}
theorem aO.mem{l:List α}{n m:α}(h:aO l n m):n∈l/\m∈l:=by let(i,a,b):=h;$({eK a,eK b})
def kd{l:List α}(nd:l.Nodup){i j:Nat}{a:α}(c:l[i]?=ac a)(d:l[j]?=ac a):i=j:=by
 let(hi,e1):=bg.1 c;let(b,e2):=bg.1 d;let h||h||h:=Nat.lt_trichotomy i j
 .let:=nr.1 nd i j hi b h;simp!
 .$h
 let:=nr.1 nd j i b hi h;simp!
def aO.ne (nd:l.Nodup)(hl:3<=l.length)(h:aO l n m):n≠m:=by
 ext rfl;let(i,a,b):=h;let hi:=(bg.1 a).1;let:=kd nd a b;ext(c:i+1<l.length)
 .rw[lr c]at this;lia
 rw[show i+1=l.length from by lia,z7]at this;lia
def aO.asymm (nd:l.Nodup)(hl:3<=l.length)(h:aO l n m)(h':aO l m n):False:=by
 let(i,b,e):=h;let(j,c,f):=h';let hi:=(bg.1 b).1;let g:=(bg.1 c).1;let k:=kd nd c e;let o:=kd nd b f;let d:∀a,a<l.length->(a+1)%l.length=if a+1=l.length then 0 else a+1:=λa ha=>by
  split
  .ext1 h;rw[h,z7]
  exact lr (by lia)
 rw[d i hi]at k;rw[d j g]at o;lia
def corners(rooms:List α)(ring:α->List α):List (α×α×α):=rooms.flatMap λx=>(fO<|ring x).map λp=>(x,p.1,p.2)
theorem fy{x n m:α}:(x,n,m)∈corners rooms ring↔x∈rooms/\aO (ring x) n m:=by
 delta corners;rw[aeD];constructor
 .ext⟨y,a,h⟩;let(p,b,e):=a5.1 h;$$$e;$({a,DJ.1 b})
 ext⟨hx,h⟩;$({x,hx,a5.2 {(n,m),DJ.2 h,ρ}})
theorem yf (f:a->List c)(p:c->Bool):∀l:List a,(l.flatMap f).countP p=aB (λb=>(f b).countP p) l
 |[]=>rfl
 |b::l=>by simp[yf f p l];rfl
theorem kU(C:eV rooms walls ring):(corners rooms ring).Nodup:=by
 let key:∀l:List α,l.Nodup->(∀x∈l,(ring x).Nodup)->(corners l ring).Nodup:=by
  ext l;induction l with
  |nil=>$(λ_ _=>D0)
  |cons a l f =>
   ext c d;rw[iN]at c;let e:corners (a::l) ring=((fO<|ring a).map λp=>(a,p.1,p.2))++corners l ring:=by rfl
   rw[e,hM];$({?_,f c.2 λx hx=>d x (by simp[hx]),?_})
   .let g:(fO<|ring a).Nodup:=by let:=d a ⋯;rw[<-xN (ring a)]at this;$((hF.1 this).imp λb e=>b (by rw[e]))
    $(hF.2 (g.imp λb e=>b ?_));simp!
   grind [fy]
 $(key rooms C.ie C.nd)
def count_map{c:Type}{l d:List c}(nd:l.Nodup)(f:d.Nodup){g:c->c}(inj:∀a∈l,∀b∈l,g a=g b->a=b)(h:∀b,b∈d↔∃a∈l,g a=b)(p:c->Bool):d.countP p=l.countP λa=>p (g a):=by
 let pm:d.Perm (l.map g):=(mm f<|hF.2 (nd.imp_of_mem λj k i e=>i<|inj _ j _ k e)).2 λb=>by rw[h b,a5]
 rw[pm.countP_eq,nA];rfl
end
section
variable{α:Type}[DecidableEq α]{rooms walls:List α}{ring:α->List α}{lt:α->α->Bool}
def ai(rooms:List α)(a:α):Bool:=am<|a∈rooms
def canon(rooms:List α)(lt:α->α->Bool)(c:α×α×α):Bool:=(!ai rooms c.2.1||lt c.1 c.2.1)&&(!ai rooms c.2.2||lt c.1 c.2.2)
def g3(c:α×α×α):α×α×α:=(c.2.1,c.2.2,c.1)
def A1 (h:g3 a=g3 b):a=b:=by grind [g3]
theorem Iu:∀{l:List f},(∀a∈l,(p a=bd/\q a=bi/\s a=bi)\/(p a=bi/\q a=bd/\s a=bi)\/(p a=bi/\q a=bi/\s a=bd))->l.countP p+l.countP q+l.countP s=l.length
 |[],_=>rfl
 |a::l,h=>by let:=Iu (l:=l) λb g=>h b (by simp[g]);simp[ia];let(c,d,e)||(c,d,e)||(c,d,e):=h a ⋯<;>rw[c,d,e]<;>simp<;>lia
theorem Ig:∀{l:List c},(∀a∈l,(p a=bd/\q a=bi)\/(p a=bi/\q a=bd))->l.countP p+l.countP q=l.length
 |[],_=>rfl
 |a::l,h=>by let:=Ig (l:=l) λb f=>h b (by simp[f]);simp[ia];let(d,e)||(d,e):=h a ⋯<;>rw[d,e]<;>simp<;>lia
theorem Order.jW(O:Order lt)(h:lt a b=bd):lt b a=bi:=by
 cases e:lt b a with
 |false=>rfl
 |true=>let:=O.tr a b a h e;rw[O.fB]at this;$$$this
def eV.apart(C:eV rooms walls ring)(hx:x∈rooms)(h:aO (ring x) n m):x≠n/\x≠m/\n≠m:=by let:=h.mem;$({λe=>C.fB x hx<|e ▸ this.1,λe=>C.fB x hx<|e ▸ this.2,h.ne (C.nd x hx)<|C.len x hx})
def ot (p q:b->Bool)(l:List b):(l.filter p).countP q=l.countP λa=>p a&&q a:=by simp[List.countP_filter,ab1]
def eV.least(C:eV rooms walls ring)(O:Order lt):3*(corners rooms ring).countP (canon rooms lt)=aB (λx=>(ring x).countP (ai rooms)) rooms+2*aB (λx=>(ring x).countP λy=>!ai rooms y) rooms+(corners rooms ring).countP λc=>!ai rooms c.2.1&&!ai rooms c.2.2:=by
 let k:=kU C;generalize o:corners rooms ring=cs at *;let mem:∀{x n m:α},(x,n,m)∈cs↔x∈rooms/\aO (ring x) n m:=λ{x n m}=>by rw[<-o];$fy
 let I:∀p:α->Bool,(cs.countP λc=>p c.2.1)=aB (λx=>(ring x).countP p) rooms:=λp=>by rw[<-o];delta corners;rw[yf];$(cZ λx _=>?_);rw[nA];let:=congrArg (adR p)<|xN<|ring x;rwa[nA]at this
 let D:∀p:α->Bool,(cs.countP λc=>p c.2.2)=aB (λx=>(ring x).countP p) rooms:=λp=>by rw[<-o];delta corners;rw[yf];$(cZ λx _=>?_);rw[nA];let:=congrArg (adR p)<|Sd<|ring x;simp?[nA,(Oo<|ring x).countP_eq]at this;$this
 let J:=gh (λc:α×α×α=>ai rooms c.2.1) (λc=>ai rooms c.2.2) cs;let F:=gh (λc:α×α×α=>!ai rooms c.2.2) (λc=>ai rooms c.2.1) cs;rw[I (ai rooms)]at J;rw[D (λy=>!ai rooms y)]at F;let K:(cs.countP λc=>ai rooms c.2.2&&ai rooms c.2.1)=cs.countP λc=>ai rooms c.2.1&&ai rooms c.2.2:=by congr 1;funext c;$(ab1 _ _)
 let L:(cs.countP λc=>!ai rooms c.2.2&&ai rooms c.2.1)=cs.countP λc=>ai rooms c.2.1&&!ai rooms c.2.2:=by congr 1;funext c;$(ab1 _ _)
 let M:(cs.countP λc=>!ai rooms c.2.2&&!ai rooms c.2.1)=cs.countP λc=>!ai rooms c.2.1&&!ai rooms c.2.2:=by congr 1;funext c;$(ab1 _ _)
 simp?[L,M]at F;let k1:=gh (canon rooms lt) (λc=>ai rooms c.2.1) cs;let N:=gh (λc=>canon rooms lt c&&ai rooms c.2.1) (λc=>ai rooms c.2.2) cs;let P:=gh (λc=>canon rooms lt c&&!ai rooms c.2.1) (λc=>ai rooms c.2.2) cs;let Q:(cs.countP λa=>canon rooms lt a&&ai rooms a.2.1&&ai rooms a.2.2)=cs.countP λa=>(ai rooms a.2.1&&ai rooms a.2.2)&&(lt a.1 a.2.1&&lt a.1 a.2.2):=by congr 1;funext c;delta canon;cases ai rooms c.2.1<;>cases ai rooms c.2.2<;>simp
 let R:(cs.countP λa=>canon rooms lt a&&ai rooms a.2.1&&!ai rooms a.2.2)=cs.countP λa=>(ai rooms a.2.1&&!ai rooms a.2.2)&&lt a.1 a.2.1:=by congr 1;funext c;delta canon;cases ai rooms c.2.1<;>cases ai rooms c.2.2<;>simp
 let S:(cs.countP λa=>canon rooms lt a&&!ai rooms a.2.1&&ai rooms a.2.2)=cs.countP λa=>(!ai rooms a.2.1&&ai rooms a.2.2)&&lt a.1 a.2.2:=by congr 1;funext c;delta canon;cases ai rooms c.2.1<;>cases ai rooms c.2.2<;>simp
 let T:(cs.countP λa=>canon rooms lt a&&!ai rooms a.2.1&&!ai rooms a.2.2)=cs.countP λa=>!ai rooms a.2.1&&!ai rooms a.2.2:=by congr 1;funext c;delta canon;cases ai rooms c.2.1<;>cases ai rooms c.2.2<;>simp
 simp?[Q,R]at N;simp?[S,T]at P;let S3:3*(cs.countP λa=>(ai rooms a.2.1&&ai rooms a.2.2)&&(lt a.1 a.2.1&&lt a.1 a.2.2))=cs.countP λc=>ai rooms c.2.1&&ai rooms c.2.2:=by
  let i:(cs.filter λc=>ai rooms c.2.1&&ai rooms c.2.2).Nodup:=k9 n5 k;let j:∀{x n m:α},(x,n,m)∈cs.filter (λc=>ai rooms c.2.1&&ai rooms c.2.2)↔(x∈rooms/\aO (ring x) n m)/\n∈rooms/\m∈rooms:=λ{x n m}=>by rw[gg,mem];dsimp[ai];simp
  let r:∀b,b∈cs.filter (λc=>ai rooms c.2.1&&ai rooms c.2.2)↔∃a∈cs.filter (λc=>ai rooms c.2.1&&ai rooms c.2.2),g3 a=b:=by
   ext⟨x,n,m⟩;constructor
   .ext h;let((hx,s),d,f):=j.1 h;$({(m,x,n),j.2 {{f,C.gb x hx n m s f},hx,d},ρ})
   ext⟨⟨U,V,W⟩,h,e⟩;$$$e;let((hx,s),d,f):=j.1 h;$(j.2 {{d,C.gx _ hx _ _ s d},f,hx})
  let t:=count_map i i (λa _ b _ h=>A1 h) r λa=>lt a.1 a.2.1&&lt a.1 a.2.2;let X:=count_map i i (λa _ b _ h=>A1 h) r λa=>lt (g3 a).1 (g3 a).2.1&&lt (g3 a).1 (g3 a).2.2
  let z:=Iu (p:=λa=>lt a.1 a.2.1&&lt a.1 a.2.2) (q:=λa=>lt (g3 a).1 (g3 a).2.1&&lt (g3 a).1 (g3 a).2.2) (s:=λa=>lt (g3<|g3 a).1 (g3<|g3 a).2.1&&lt (g3<|g3 a).1 (g3<|g3 a).2.2) (by
   ext⟨x,n,m⟩ h;let((hx,s),d,f):=j.1 h;let(A,Y,Z):=C.apart hx s;show((lt x n&&lt x m)=bd/\(lt n m&&lt n x)=bi/\(lt m x&&lt m n)=bi)\/((lt x n&&lt x m)=bi/\(lt n m&&lt n x)=bd/\(lt m x&&lt m n)=bi)\/((lt x n&&lt x m)=bi/\(lt n m&&lt n x)=bi/\(lt m x&&lt m n)=bd);let g||g:=O.cG x n A<;>let u||u:=O.cG x m Y<;>let v||v:=O.cG n m Z<;>let q1:=O.jW g<;>let G:=O.jW u<;>let H:=O.jW v<;>simp[g,u,v,q1,G,H]
   .let:=O.tr x n m g v;rw[G]at this;$$$this
   let:=O.tr n x m g u;rw[H]at this;$$$this)
  simp?[<-X,<-t]at z;rw[<-ph]at z;rw[ot]at z;lia
 let S2:(cs.countP λa=>(ai rooms a.2.1&&!ai rooms a.2.2)&&lt a.1 a.2.1)+(cs.countP λa=>(!ai rooms a.2.1&&ai rooms a.2.2)&&lt a.1 a.2.2)=cs.countP λc=>ai rooms c.2.1&&!ai rooms c.2.2:=by
  let i:(cs.filter λc=>ai rooms c.2.1&&!ai rooms c.2.2).Nodup:=k9 n5 k;let B:(cs.filter λc=>!ai rooms c.2.1&&ai rooms c.2.2).Nodup:=k9 n5 k;let j:∀{x n m:α},(x,n,m)∈cs.filter (λc=>ai rooms c.2.1&&!ai rooms c.2.2)↔(x∈rooms/\aO (ring x) n m)/\n∈rooms/\m∉rooms:=λ{x n m}=>by rw[gg,mem];dsimp[ai];simp
  let w:∀{x n m:α},(x,n,m)∈cs.filter (λc=>!ai rooms c.2.1&&ai rooms c.2.2)↔(x∈rooms/\aO (ring x) n m)/\n∉rooms/\m∈rooms:=λ{x n m}=>by rw[gg,mem];dsimp[ai];simp
  let r:∀b,b∈cs.filter (λc=>!ai rooms c.2.1&&ai rooms c.2.2)↔∃a∈cs.filter (λc=>ai rooms c.2.1&&!ai rooms c.2.2),g3 a=b:=by
   ext⟨x,n,m⟩;constructor
   .ext h;let((hx,s),d,f):=w.1 h;$({(m,x,n),j.2 {{f,C.gb x hx n m s f},hx,d},ρ})
   ext⟨⟨U,V,W⟩,h,e⟩;$$$e;let((hx,s),d,f):=j.1 h;$(w.2 {{d,C.gx _ hx _ _ s d},f,hx})
  let t:=count_map i B (λa _ b _ h=>A1 h) r λa=>lt a.1 a.2.2;simp[ot]at t;rw[t,<-ot,<-ot,ph (l:=cs)];apply Ig;ext⟨x,n,m⟩ h;let((hx,s),d,f):=j.1 h;let(A,_,_):=C.apart hx s;show(lt x n=bd/\lt n x=bi)\/(lt x n=bi/\lt n x=bd);let g||g:=O.cG x n A
  .$(ι {g,O.jW g})
  $(τ {O.jW g,g})
 lia
def jh:canon rooms lt (x,n,m)=bd↔(n∈rooms->lt x n=bd)/\(m∈rooms->lt x m=bd):=by dsimp[canon,ai];ext(a:n∈rooms)<;>ext(b:m∈rooms)<;>simp[a,b]
def Ni (h:[a,b].Perm [c,d]):(a=c/\b=d)\/(a=d/\b=c):=by
 let e:a=c\/a=d:=by$$$$(h.mem_iff.1 (show a∈[a,b]by simp))
 let rfl||rfl:=e
 .simp!
 exact τ {ρ,by$$$$((h.trans<|List.Perm.swap _ _ _).cons_inv)}
def eV.threes(C:eV rooms walls ring)(O:Order lt){B:Type}{key:α×α×α->B}(E:∀c∈corners rooms ring,∀b∈corners rooms ring,key c=key b↔[c.1,c.2.1,c.2.2].Perm [b.1,b.2.1,b.2.2]){D:List B}(nd:D.Nodup)(R:∀k,k∈D↔∃c∈corners rooms ring,key c=k) :
  D.length=(corners rooms ring).countP (canon rooms lt):=by
 let F:=kU C;let inj:∀c∈(corners rooms ring).filter (canon rooms lt),∀b∈(corners rooms ring).filter (canon rooms lt),key c=key b->c=b:=by
  ext⟨x,n,m⟩ h ⟨i,y,A⟩ h' e;let(d,S):=gg.1 h;let(v,G):=gg.1 h';let p:=(E _ d _ v).1 e;let(hx,s):=fy.1 d;let(j,s'):=fy.1 v;let(H,I):=jh.1 S;let(J,K):=jh.1 G;let ex:x=i:=by
   let T:x=i\/x=y\/x=A:=by$$$$(p.mem_iff.1 (show x∈[x,n,m]by simp))
   let L:i=x\/i=n\/i=m:=by$$$$(p.mem_iff.2 (show i∈[i,y,A]by simp))
   let h||h||h:=T
   .$h
   .let q:=J<|h ▸ hx;rw[<-h]at q;let k||k||k:=L
    .$k.symm
    .let:=H<|k ▸ j;rw[<-k,O.jW q]at this;lk
    let:=I<|k ▸ j;rw[<-k,O.jW q]at this;lk
   let q:=K<|h ▸ hx;rw[<-h]at q;let k||k||k:=L
   .$k.symm
   .let:=H<|k ▸ j;rw[<-k,O.jW q]at this;lk
   let:=I<|k ▸ j;rw[<-k,O.jW q]at this;lk
  $$ex;let(rfl,rfl)||(rfl,rfl):=Ni (show[n,m].Perm [y,A]from p.cons_inv)
  .rfl
  $((s.asymm (C.nd x hx) (C.len x hx) s').elim)
 let pm:D.Perm (((corners rooms ring).filter (canon rooms lt)).map key):=(mm nd<|hF.2 ((k9 n5 F).imp_of_mem λU V M e=>M<|inj _ U _ V e)).2 λk=>by
  rw[R k,a5];constructor
  .ext⟨⟨x,n,m⟩,d,rfl⟩;let(hx,s):=fy.1 d;let(N,P,W):=C.apart hx s;let put:∀b,b∈corners rooms ring->canon rooms lt b=bd->[b.1,b.2.1,b.2.2].Perm [x,n,m]->∃a∈(corners rooms ring).filter (canon rooms lt),key a=key (x,n,m):=λb Q X Y=>{b,gg.2 ⟨Q,X⟩,(E _ Q _ d).2 Y};let pn:=aaD (l₁:=[n,m]) (l₂:=[x]);let o:=aaD (l₁:=[m]) (l₂:=[x,n]);let w:n∈rooms->(n,m,x)∈corners rooms ring:=λh=>fy.2 {h,C.gx x hx n m s h};let r:m∈rooms->(m,x,n)∈corners rooms ring:=λh=>fy.2 {h,C.gb x hx n m s h};ext(t:n∈rooms)<;>ext(l:m∈rooms)
   .let f||f:=O.cG x n N
    .let g||g:=O.cG x m P
     .$(put _ d (jh.2 {λ_=>f,λ_=>g})<|List.Perm.refl _)
     $(put _ (r l) (jh.2 {λ_=>g,λ_=>O.tr m x n g f}) o)
    let u||u:=O.cG n m W
    .$(put _ (w t) (jh.2 {λ_=>u,λ_=>f}) pn)
    $(put _ (r l) (jh.2 {λ_=>O.tr m n x u f,λ_=>u}) o)
   .let f||f:=O.cG x n N
    .$(put _ d (jh.2 {λ_=>f,λz=>absurd z l})<|List.Perm.refl _)
    $(put _ (w t) (jh.2 {λz=>absurd z l,λ_=>f}) pn)
   .let g||g:=O.cG x m P
    .$(put _ d (jh.2 {λz=>absurd z t,λ_=>g})<|List.Perm.refl _)
    $(put _ (r l) (jh.2 {λ_=>g,λz=>absurd z t}) o)
   $(put _ d (jh.2 {λz=>absurd z t,λz=>absurd z l})<|List.Perm.refl _)
  ext⟨c,d,rfl⟩;$({c,(gg.1 d).1,ρ})
 rw[pm.length_eq,a8,ph]
end
section
variable{bx:Ob}{os:List Ob}{x n m:Ob}
def aD.closed(T:aD bx os)(a:bx.ok)(nd:(os++walls bx).Nodup):eV os (walls bx) (bD<|os++walls bx) where
 ie:=(hM.1 nd).1
 cO:=λx hx hw=>(hM.1 nd).2.2 x hx x hw ρ
 nd:=λx hx=>T.Tw a hx nd
 len:=λx hx=>by let n1:=ir.2 (T.chain a hx nd (k:=1) ⋯).1;let n2:=ir.2 (T.chain a hx nd (k:=2) ⋯).1;let n3:=ir.2 (T.chain a hx nd (k:=3) ⋯).1;$$(bD);simp?[fk,fk];lia
 mem:=λx hx y c=>el.1 (iB.1 c).1
 fB:=λx hx h=>by let(_,k,d,u):=iB.1 h;let ox:=mL k<|Nb.ok T a<|ι hx;simp![Up]
 sym:=λx hx y c h=>by
  let(_,k,d,u):=iB.1 h;let e:=DV x y k;let b:on (k+2) y x=bd:=by rw[<-e];$(decide_eq_true u)
  $(iB.2 {el.2<|ι hx,?_});ext(f:k+2<4)
  .$({k+2,f,of_decide_eq_true b})
  let g:on (k+2) y x=on (k-2) y x:=by rw[show k+2=(k-2)+4 from by$_];$(GC _ _ _)
  rw[g]at b;$({k-2,⋯,of_decide_eq_true b})
 gx:=λx hx n m s i=>(T.C5 a hx nd s).1 i
 gb:=λx hx n m s j=>(T.C5 a hx nd s).2 j
def DP(N)(x)(p):(bD N x).countP p=cc λk=>N.countP λz=>on k x z&&p z:=by
 let e:∀k,(bO N x k).countP p=N.countP λz=>on k x z&&p z:=λk=>by delta bO;simp?[(gj _ _).countP_eq,ot];rfl
 dsimp[bD,cc];simp?[mo,e,e,e,e]
def aD.FG(T:aD bx os)(hp:bx.ok)(nd:(os++walls bx).Nodup)(x:Ob):(bD (os++walls bx) x).countP (ai os)=cc (λk=>os.countP<|on k x)/\((bD (os++walls bx) x).countP λy=>!ai os y)=cc λk=>(walls bx).countP (on k x):=by
 let cO:∀w∈walls bx,w∉os:=λw hw c=>(hM.1 nd).2.2 w c w hw ρ;let a:∀k,((os++walls bx).countP λz=>on k x z&&ai os z)=os.countP (on k x):=λk=>by
  rw[mo];let d:(os.countP λz=>on k x z&&ai os z)=os.countP (on k x):=pB λz hz=>by simp![ai]
  let e2:((walls bx).countP λz=>on k x z&&ai os z)=0:=by rw[vj];ext w hw e;rw[ec]at e;$(cO w hw<|of_decide_eq_true e.2)
  lia
 let b:∀k,((os++walls bx).countP λz=>on k x z&&!ai os z)=(walls bx).countP (on k x):=λk=>by
  let d:((walls bx).countP λz=>on k x z&&!ai os z)=(walls bx).countP (on k x):=by simp![ai,pB]
  simp![ai]
 simp?[DP];$({congrArg cc (funext a),congrArg cc<|funext b})
def aD.sums(T:aD bx os)(a:bx.ok)(nd:(os++walls bx).Nodup):aB (λx=>(bD (os++walls bx) x).countP (ai os)) os+2*aB (λx=>(bD (os++walls bx) x).countP λy=>!ai os y) os=6*os.length+2:=by rw[cZ (g:=λx=>cc λk=>os.countP<|on k x) λx _=>(T.FG a nd x).1,cZ (g:=λx=>cc λk=>(walls bx).countP (on k x)) λx _=>(T.FG a nd x).2];$(T.ties a nd)
def vb(a:m∈walls bx)(i:bx.l<=x.l/\x.l<x.r/\x.r<=bx.r/\bx.b<=x.b/\x.b<x.t/\x.t<=bx.t)(u:Up (ag<|ag x) (ag<|ag m)):m=wS bx/\x.b=bx.b:=by
 let(d,i2,e,i4,i5,i6):=i;let(c,f,g):=u;simp[walls]at a;let rfl||rfl||rfl||rfl:=a
 .$(absurd (acL.1 (show -(bx.t+1)=-x.b from c)) (by lia))
 .$(absurd (aba.1<|f)<|abE.2 e)
 .$({ρ,(acL.1<|c).symm})
 $(absurd (aba.1<|g)<|abE.2 d)
def wC(a:m∈walls bx)(i:bx.l<=x.l/\x.l<x.r/\x.r<=bx.r/\bx.b<=x.b/\x.b<x.t/\x.t<=bx.t)(u:Up (ag<|ag<|ag x) (ag<|ag<|ag m)):m=wW bx/\x.l=bx.l:=by
 let(i1,i2,i3,i4,i5,i6):=i;let(c,d,e):=u;dsimp[ag]at c d e;simp[walls]at a;let rfl||rfl||rfl||rfl:=a<;>dsimp[wN,wE,wS,wW]at c d e
 .$_
 .$_
 .$_
 simp!
def aD.jU(T:aD bx os)(u:bx.ok)(hx:x∈os)(i:n∈walls bx)(j:m∈walls bx):cL x n m↔(n=wN bx/\m=wE bx/\x.t=bx.t/\x.r=bx.r)\/(n=wE bx/\m=wS bx/\x.r=bx.r/\x.b=bx.b)\/(n=wS bx/\m=wW bx/\x.b=bx.b/\x.l=bx.l)\/(n=wW bx/\m=wN bx/\x.l=bx.l/\x.t=bx.t):=by
 let h:=T.aU x hx;have⟨s,v⟩:=u;constructor
 .ext⟨k,hk,f⟩;let w:k=0\/k=1\/k=2\/k=3:=⋯;let rfl||rfl||rfl||rfl:=w
  .let (un,g,e)||(un,o,g,em):=f
   .rw[(kG i h un).1,(kG j h g).1]at e;$(absurd (e)<|Int.ne_of_gt s)
   let(a,b):=kG i h un;let(c,d):=nK j h g;$(ι ⟨a,c,b,d⟩)
  .let (un,g,e)||(un,o,g,em):=f
   .rw[(nK i h un).1,(nK j h g).1]at e;$(absurd (acL.1<|e)<|afM v)
   let(a,b):=nK i h un;let(c,d):=vb j h g;$(τ<|ι ⟨a,c,b,d⟩)
  .let (un,g,e)||(un,o,g,em):=f
   .rw[(vb i h un).1,(vb j h g).1]at e;$(absurd (acL.1<|e)<|afM s)
   let(a,b):=vb i h un;let(c,d):=wC j h g;$(τ<|τ<|ι ⟨a,c,b,d⟩)
  let(un,g,e)||(un,o,g,em):=f
  .rw[(wC i h un).1,(wC j h g).1]at e;dsimp[aa,ag,wW]at e;lia
  let(a,b):=wC i h un;let g:Up (ag<|ag<|ag<|ag x) (ag<|ag<|ag<|ag m):=g;rw[pG,pG]at g;let(c,d):=kG j h g;$(τ<|τ<|τ ⟨a,c,b,d⟩)
 ext (⟨rfl,rfl,p,q⟩|⟨rfl,rfl,p,q⟩|⟨rfl,rfl,p,q⟩|⟨rfl,rfl,p,q⟩)
 .$({0,⋯,τ (by dsimp[Up,aa,ag,wN,wE];$_)})
 .$({1,⋯,τ (by dsimp[Up,aa,ag,wS,wE];$_)})
 .$({2,⋯,τ (by dsimp[Up,aa,ag,wS,wW];$_)})
 $({3,⋯,τ (by dsimp[Up,aa,ag,wN,wW];$_)})
end
section
variable{α:Type}[DecidableEq α]{rooms walls:List α}{ring:α->List α}{lt:α->α->Bool}
def FF{l d:List α}(nd:l.Nodup)(e:d.Nodup)(p:α->Bool):(l.countP λy=>am (y∈d)&&p y)=d.countP λy=>am (y∈l)&&p y:=by
 simp[ph];$(List.Perm.length_eq ((mm (k9 n5 nd)<|k9 n5 e).2 λy=>?_));simp;constructor
 .ext⟨a,b,c⟩;$(⟨b,a,c⟩)
 simp!
def eV.half(C:eV rooms walls ring)(O:Order lt):2*aB (λx=>(ring x).countP λy=>ai rooms y&&lt x y) rooms=aB (λx=>(ring x).countP (ai rooms)) rooms:=by
 let a:∀x∈rooms,((ring x).countP λy=>ai rooms y&&lt x y)=rooms.countP λy=>am (y∈ring x)&&lt x y:=λx hx=>FF (C.nd x hx) C.ie<|lt x;let b:∀x∈rooms,(ring x).countP (ai rooms)=rooms.countP λy=>am (y∈ring x):=λx hx=>by let:=FF (C.nd x hx) C.ie λ_=>true;simp?[ab0]at this;$this
 rw[cZ a,cZ b];let s:aB (λx=>rooms.countP λy=>am (y∈ring x)&&lt x y) rooms=aB (λy=>rooms.countP λx=>am (x∈ring y)&&lt x y) rooms:=by rw[wa λx y=>am (y∈ring x)&&lt x y];$(cZ λy d=>pB λx hx=>?_);let:(y∈ring x)↔(x∈ring y):={λh=>C.sym x hx y d h,λh=>C.sym y d x hx h};simp!
 let t:aB (λx=>rooms.countP λy=>am<|y∈ring x) rooms=aB (λx=>rooms.countP λy=>am (y∈ring x)&&lt x y) rooms+aB (λx=>rooms.countP λy=>am (y∈ring x)&&lt y x) rooms:=by
  rw[<-jg];$(cZ λx hx=>?_);simp?[gh (λy=>am<|y∈ring x) (λy=>lt x y)]
  congr 1;$(pB λy d=>?_)
  simp?[ec,decide_eq_true_eq,l4];constructor
  .ext⟨c,f⟩;$({c,?_});let ne:x≠y:=λe=>C.fB x hx (e ▸ c);let h||h:=O.cG x y ne;simp!;$h
  ext⟨c,f⟩;$({c,O.jW f})
 lia
end
section
variable{bx:Ob}{os:List Ob}{lt:Ob->Ob->Bool}{x y n m p w:Ob}
def aD.lA(T:aD bx os){p q:Int}(d:bx.l<=p)(e:p<bx.r)(f:bx.b<=q)(g:q<bx.t){P:Ob->Prop}(i:∀o,(bx.l<=o.l/\o.l<o.r/\o.r<=bx.r/\bx.b<=o.b/\o.b<o.t/\o.t<=bx.t)->(P o↔o.l<=p/\p<o.r/\o.b<=q/\q<o.t)):∃x∈os,∀y∈os,P y↔y=x:=by
 let(x,hx,k):=T.hit p q d e f g;$({x,hx,λy c=>?_});rw[i y (T.aU y c)];constructor
 .$(λh=>(T.ap y c x hx).resolve_right λa=>?_);grind [Apart]
 ext rfl;$k
def aD.UQ(T:aD bx os)(d:bx.ok)(nd:(os++walls bx).Nodup):((corners os<|bD<|os++walls bx).countP λc=>!ai os c.2.1&&!ai os c.2.2)=4:=by
 let C:=T.closed d nd;let G:=d;unfold Ob.ok at G;let(L,z,H):=T.lA (p:=bx.r-1) (q:=bx.t-1) (P:=λx=>x.t=bx.t/\x.r=bx.r) (by lia) (by lia) (by lia) (by lia)<|λo i=>⋯;let(M,A,I):=T.lA (p:=bx.r-1) (q:=bx.b) (P:=λx=>x.r=bx.r/\x.b=bx.b) (by lia) (by lia) (by lia) ⋯ (λo i=>⋯);let(N,B,J):=T.lA (p:=bx.l) (q:=bx.b) (P:=λx=>x.b=bx.b/\x.l=bx.l) (by lia) ⋯ (by lia) ⋯ (λo i=>⋯);let(O,D,K):=T.lA (p:=bx.l) (q:=bx.t-1) (P:=λx=>x.l=bx.l/\x.t=bx.t) (by lia) ⋯ (by lia) (by lia) (λo i=>⋯);rw[ph];let Q:wN bx≠wE bx:=λe=>by let:=congrArg Ob.t e;simp?[wN,wE]at this;$_
 let R:wN bx≠wS bx:=λe=>by let:=congrArg Ob.b e;simp?[wN,wS]at this;$_
 let S:wN bx≠wW bx:=λe=>by let:=congrArg Ob.t e;simp?[wN,wW]at this;$_
 let U:wE bx≠wS bx:=λe=>by let:=congrArg Ob.b e;simp?[wE,wS]at this;$_
 let V:wE bx≠wW bx:=λe=>by let:=congrArg Ob.l e;simp?[wE,wW]at this;$_
 let sW:wS bx≠wW bx:=λe=>by let:=congrArg Ob.b e;simp?[wS,wW]at this;$_
 let pm:((corners os<|bD<|os++walls bx).filter λc=>!ai os c.2.1&&!ai os c.2.2).Perm [(L,wN bx,wE bx),(M,wE bx,wS bx),(N,wS bx,wW bx),(O,wW bx,wN bx)]:=by
  $((mm (k9 n5<|kU C) ?_).2 ?_)
  .simp?[iN,dV,eT,or_false,abN,not_or,not_and];refine{{λ_ h=>absurd h Q,λ_ h=>absurd h R,λ_ h=>absurd h S},{λ_ h=>absurd h U,λ_ h=>absurd h V},λ_ h=>absurd h sW,not_false,D0}
  ext⟨x,n,m⟩;let g:∀{o:Ob},o∈walls bx->o∉os:=λ{o} hw W=>(hM.1 nd).2.2 o W o hw ρ;rw[gg,fy];simp?[ai,ec,l4,decide_eq_false_iff_not,dV,eT,or_false,abN];constructor
  .ext⟨⟨hx,s⟩,X,Y⟩;let E:n∈walls bx:=(C.mem x hx n s.mem.1).resolve_left X;let F:m∈walls bx:=(C.mem x hx m s.mem.2).resolve_left Y;let f:=(T.jU d hx E F).1 ((T.et d hx nd (τ E)<|τ F).1 s);let(a,b,c)||(a,b,c)||(a,b,c)||(a,b,c):=f
   .$(ι {(H x hx).1 c,a,b})
   .$(τ<|ι ⟨(I x hx).1 c,a,b⟩)
   .$(τ<|τ<|ι ⟨(J x hx).1 c,a,b⟩)
   $(τ<|τ<|τ ⟨(K x hx).1 c,a,b⟩)
  let j:wN bx∈walls bx:=by simp[walls]
  let k:wE bx∈walls bx:=by simp[walls]
  let u:wS bx∈walls bx:=by simp[walls]
  let v:wW bx∈walls bx:=by simp[walls]
  ext (⟨rfl,rfl,rfl⟩|⟨rfl,rfl,rfl⟩|⟨rfl,rfl,rfl⟩|⟨rfl,rfl,rfl⟩)
  .$({{z,(T.et d z nd (τ j)<|τ k).2 ((T.jU d z j k).2 (ι {ρ,ρ,(H _ z).2 ρ}))},g j,g k})
  .$({{A,(T.et d A nd (τ k)<|τ u).2 ((T.jU d A k u).2 (τ<|ι ⟨ρ,ρ,(I _ A).2 ρ⟩))},g k,g u})
  .$({{B,(T.et d B nd (τ u)<|τ v).2 ((T.jU d B u v).2 (τ<|τ<|ι ⟨ρ,ρ,(J _ B).2 ρ⟩))},g u,g v})
  $({{D,(T.et d D nd (τ v)<|τ j).2 ((T.jU d D v j).2 (τ<|τ<|τ ⟨ρ,ρ,(K _ D).2 ρ⟩))},g v,g j})
 rw[pm.length_eq];rfl
inductive Row {α:Type}(rooms:List α) (ring:α->List α) (wall:α):α->List α->Prop
 |stop {a:α}:a∉rooms->Row rooms ring wall a []
 |go {a p:α}{l:List α}:a∈rooms->aO (ring a) p wall->Row rooms ring wall p l->Row rooms ring wall a (a::l)
def aD.before(T:aD bx os)(d:bx.ok)(hx:x∈os)(nd:(os++walls bx).Nodup)(ht:x.t=bx.t):∃p,Nb bx os p/\cL x p (wN bx)/\((p∈os/\p.t=bx.t/\p.r=x.l)\/(p=wW bx/\x.l=bx.l)):=by
 let ix:=T.aU x hx;let c:=d;unfold Ob.ok at c;ext(h:x.l=bx.l)
 .refine{wW bx,τ (by simp[walls]),{3,⋯,τ ?_},τ ⟨ρ,h⟩};simp![Up,aa,ag,wN,wW]
 -- the room to the left,at the top
 let(o,b,k1,k2,k3,k4):=T.hit (x.l-1) (x.t-1) (by lia) ∅ ∅ (by lia);let io:=T.aU o b;let ap:Apart o x:=by
  let e||a:=T.ap o b x hx
  .lia
  exact a
 unfold Apart at ap;$({o,ι b,{3,⋯,τ ?_},⋯});simp?[Up,aa,ag,wN];lia
theorem aD.Ol(T:aD bx os)(i:bx.ok)(nd:(os++walls bx).Nodup):∀(k:Nat) (x:Ob),x∈os->x.t=bx.t->(x.l-bx.l).toNat<=k->∃l,Row os (bD<|os++walls bx) (wN bx) x l/\l.Nodup/\∀y,y∈l↔y∈os/\y.t=bx.t/\y.r<=x.r:=by
 ext k;induction k with
 |zero =>
  ext x hx o B;let C:=T.aU x hx;let(p,g,f,h):=T.before i hx nd o;let u:Nb bx os (wN bx):=τ (by simp[walls]);let s:=(T.et i hx nd g u).2 f;let(d,j,v)||(d,j):=h
  .let:=T.aU p d;$_
  $$d;$({[x],.go hx s (.stop λz=>(hM.1 nd).2.2 _ z _ (by simp[walls]) ρ),ado _ _,λy=>?_});rw[ka];constructor;simp!;ext⟨A,v,h4⟩;let D:=T.aU y A;$((T.ap y A x hx).resolve_right λa=>?_);grind [Apart]
 |succ k E =>
  ext x hx o B;let C:=T.aU x hx;let(p,g,f,h):=T.before i hx nd o;let u:Nb bx os (wN bx):=τ (by simp[walls]);let s:=(T.et i hx nd g u).2 f;let(d,j,v)||(d,j):=h
  .let ip:=T.aU p d;let(l,r,n,e):=E p d j ∅;$({x::l,.go hx s r,iN.2 {λz=>?_,n},λy=>?_})
   .let:=((e x).1 z).2.2;$_
   rw[dV,e y];constructor;lia;ext⟨a,b,c⟩;let D:=T.aU y a;let e||q:=T.ap y a x hx
   .$(ι e)
   grind [Apart]
  simp!
def reach [DecidableEq a](rooms walls:List a)(ring:a->List a):Nat->List a
 |0=>walls
 |k+1=>walls++rooms.filter λx=>(ring x).any λy=>am<|y∈reach rooms walls ring k
theorem aD.reached(T:aD bx os)(c:bx.ok)(nd:(os++walls bx).Nodup):∀(k:Nat) (x:Ob),x∈os->(os.countP λy=>am<|x.t<y.t)<k->x∈reach os (walls bx) (bD<|os++walls bx) k:=by
 ext k;induction k with
 |zero=>simp
 |succ k d =>
  ext x hx h;let(ne,_):=T.chain c hx nd (k:=0) ⋯;let(y,e):=ac8 _ ne;let(b,u):=gB.1 e;let f:=iB.2 {b,0,⋯,u};$(el.2<|τ<|gg.2 ⟨hx,ll.2 ⟨y,f,decide_eq_true ?_⟩⟩);let a||hw:=el.1 b
  .$(d y a<|hQ ?_<|Nat.le_of_lt_succ h);let iy:=T.aU y a;let hxy:x.t<y.t:=by let u:Up x y:=u;simp![Up]
   let sp:=gh (λz:Ob=>am<|x.t<z.t) (λz=>am<|y.t<z.t) os;let e1:(os.countP λz=>am (x.t<z.t)&&am (y.t<z.t))=os.countP λz=>am (y.t<z.t):=pB λz _=>by lia
   let e2:0<os.countP λz=>am (x.t<z.t)&&!am (y.t<z.t):=List.countP_pos_iff.2 {y,a,by simp;$_};$_
  cases k with
  |zero=>$hw
  |succ k=>$(el.2<|ι hw)
def aD.all_reached(T:aD bx os)(a:bx.ok)(nd:(os++walls bx).Nodup)(hx:x∈os):x∈reach os (walls bx) (bD<|os++walls bx) os.length:=by apply T.reached a nd os.length x hx;let b:=abI (p:=λy:Ob=>am<|x.t<y.t) (l:=os);$(Nat.lt_of_le_of_ne b λe=>?_);let:=List.countP_eq_length.1 e x hx;simp at this
inductive jF (bx:Ob) (os:List Ob) (w:Ob):Ob->List Ob->Prop
 |stop {a:Ob}:a∉os->jF bx os w a []
 |go {a p:Ob}{l:List Ob}:a∈os->Nb bx os p->cL a p w->jF bx os w p l->jF bx os w a (a::l)
theorem Row.toF(T:aD bx os)(b:bx.ok)(nd:(os++walls bx).Nodup)(h:Row os (bD<|os++walls bx) w a l):jF bx os w a l:=by
 induction h with
 |stop h=>$(.stop h)
 | @go a p l h s _ c=>$(.go h (el.1 (iB.1 s.mem.1).1) ?_ c);let(i,d,e):=s;$(T.yO b h nd d e)
theorem jF.V0(T:aD bx os)(b:bx.ok)(nd:(os++walls bx).Nodup)(hw:Nb bx os w)(h:jF bx os w a l):Row os (bD<|os++walls bx) w a l:=by
 induction h with
 |stop h=>$(.stop h)
 | @go a p l h c f _ d=>$(.go h ((T.et b h nd c hw).2 f) d)
theorem jF.back(k)(i:k<4)(h:jF (aa k bx) (os.map<|aa k) (aa k w) (aa k a) l):∃c,l=c.map (aa k)/\jF bx os w a c:=by
 generalize d:aa k a=j at h;induction h generalizing a with
 |stop h=>$$d;$({[],ρ,.stop λz=>h<|a5.2 ⟨a,z,ρ⟩})
 | @go j o l h q f _ s=>$$d;let(p,rfl):=yV k i o;let(c,e,r):=s ρ;let(b,g,t):=a5.1 h;rw[iL k t]at g;refine{a::c,by rw[e];rfl,.go g ((rj k).1 q) (cL.ups k f) r}
def wall(bx:Ob)(k:Nat):Ob:=if k=0 then wN bx else if k=1 then wE bx else if k=2 then wS bx else wW bx
def gd(bx)(k):wall bx k∈walls bx:=by
 delta wall;split
 .simp[walls]
 split
 .simp[walls]
 split<;>simp[walls]
def GQ (hk:k<4):aa k (wall bx k)=wN (aa k bx):=by
 let a:k=0\/k=1\/k=2\/k=3:=by lia
 let rfl||rfl||rfl||rfl:=a
 .rfl
 rfl
 .let e:wall bx 2=wS bx:=ρ;rw[e];$(lD (by rfl) (by rfl) (by rfl) (by simp?[aa,ag,wN,wS];lia))
 let e:wall bx 3=wW bx:=ρ;rw[e];$(lD (by rfl) (by rfl) (by rfl) (by simp?[aa,ag,wN,wW]<;>lia))
def pC(bx:Ob)(k:Nat)(x:Ob):Prop:=(aa k x).t=(aa k bx).t
def aD.IV(nd:(os++walls bx).Nodup)(T:aD bx os)(g:bx.ok)(k:Nat):(os.map (aa k)++walls (aa k bx)).Nodup:=by
 rw[hM]at nd ⊢;$({vC k nd.1,?_,?_})
 .let d:=lB k g;unfold Ob.ok at d;generalize aa k bx=c at d;simp?[walls,iN,dV,eT,or_false,not_or];$({{λe=>?_,λe=>?_,λe=>?_},{λe=>?_,λe=>?_},λe=>?_,not_false,D0})
  .let:=congrArg Ob.t e;simp?[wN,wE]at this;$_
  .let:=congrArg Ob.b e;simp?[wN,wS]at this;$_
  .let:=congrArg Ob.t e;simp?[wN,wW]at this;$_
  .let:=congrArg Ob.b e;simp?[wE,wS]at this;$_
  .let:=congrArg Ob.l e;simp?[wE,wW]at this;$_
  let:=congrArg Ob.b e;simp?[wS,wW]at this;lia
 ext a h b f e;$$e;let i:=(T.turns k).aU a h;let f:a=wN (aa k bx)\/a=wE (aa k bx)\/a=wS (aa k bx)\/a=wW (aa k bx):=by simpa[walls]using f
 let rfl||rfl||rfl||rfl:=f<;>simp?[wN,wE,wS,wW]at i<;>$_
def aD.row(T:aD bx os)(o:bx.ok)(nd:(os++walls bx).Nodup)(t:k<4)(hx:x∈os)(v:pC bx k x)(h2:(aa k x).r=(aa k bx).r):∃l,Row os (bD<|os++walls bx) (wall bx k) x l/\l.Nodup/\∀y,y∈l↔y∈os/\pC bx k y:=by
 let q:=T.turns k;let h:=lB k o;let j:=aD.IV nd T o k;let(l,r,n,e):=q.Ol h j _ (aa k x) (a5.2 ⟨x,hx,ρ⟩) v<|eS _;let f:=Row.toF q h j r;rw[<-GQ t]at f;let(A,rfl,B):=jF.back k t f;$({A,B.V0 T o nd<|τ<|gd bx k,(hF.1 n).imp λu e=>u (by rw[e]),λy=>?_});constructor
 .ext g;let(a,b,c):=(e<|aa k y).1 (a5.2 ⟨y,g,ρ⟩);let(z,d,s):=a5.1 a;rw[iL k s]at d;$(⟨d,b⟩)
 ext⟨g,hw⟩;let i:=q.aU _<|a5.2 ⟨y,g,ρ⟩;let(z,d,s):=a5.1 ((e<|aa k y).2 {a5.2 ⟨y,g,ρ⟩,hw,⋯});rwa[iL k s]at d
def aD.tied(T:aD bx os)(f:bx.ok)(b:y∈os)(c:k<4):wall bx k∈bD (os++walls bx) y↔pC bx k y:=by
 let i:=T.aU y b;rw[iB];delta pC;let g:k=0\/k=1\/k=2\/k=3:=by lia
 constructor
 .ext⟨_,j,hj,u⟩;let a:j=0\/j=1\/j=2\/j=3:=by lia
  delta Up at u;let rfl||rfl||rfl||rfl:=g
  .let e:wall bx 0=wN bx:=ρ;rw[e]at u;let rfl||rfl||rfl||rfl:=a<;>simp?[aa,ag,wN]at u ⊢<;>$_
  .let e:wall bx 1=wE bx:=ρ;rw[e]at u;let rfl||rfl||rfl||rfl:=a<;>simp?[aa,ag,wE]at u ⊢<;>$_
  .let e:wall bx 2=wS bx:=ρ;rw[e]at u;let rfl||rfl||rfl||rfl:=a<;>simp?[aa,ag,wS]at u ⊢<;>$_
  let e:wall bx 3=wW bx:=ρ;rw[e]at u;let rfl||rfl||rfl||rfl:=a<;>simp?[aa,ag,wW]at u ⊢<;>$_
 ext h;$({el.2<|τ<|gd bx k,k,c,?_});rw[GQ c];let i':=(T.turns k).aU _ (a5.2 ⟨y,b,ρ⟩);dsimp[Up,wN];lia
def aD.first(T:aD bx os)(c:bx.ok)(nd:(os++walls bx).Nodup)(hk:k<4):∃x∈os,pC bx k x/\(aa k x).r=(aa k bx).r/\∀y∈os,aO (bD (os++walls bx) y) (wall bx k) (wall bx<|(k+1)%4)↔y=x:=by
 let g:=c;unfold Ob.ok at g;let key:∀y∈os,∀P:Prop,(cL y (wall bx k) (wall bx<|(k+1)%4)↔P)->(aO (bD (os++walls bx) y) (wall bx k) (wall bx<|(k+1)%4)↔P):=λy a P h=>by rwa[T.et c a nd (τ<|gd bx k) (τ<|gd bx _)]
 let K:wN bx≠wE bx:=λe=>by let:=congrArg Ob.t e;grind [wN,wE]
 let L:wN bx≠wS bx:=λe=>by let:=congrArg Ob.b e;simp?[wN,wS]at this;$_
 let nW:wN bx≠wW bx:=λe=>by let:=congrArg Ob.t e;simp?[wN,wW]at this;lia
 let j:wE bx≠wS bx:=λe=>by let:=congrArg Ob.b e;simp?[wE,wS]at this;lia
 let M:wE bx≠wW bx:=λe=>by let:=congrArg Ob.l e;simp?[wE,wW]at this;$_
 let sW:wS bx≠wW bx:=λe=>by let:=congrArg Ob.b e;simp?[wS,wW]at this;lia
 let s:wN bx∈walls bx:=by simp[walls]
 let u:wE bx∈walls bx:=by simp[walls]
 let v:wS bx∈walls bx:=by simp[walls]
 let z:wW bx∈walls bx:=by simp[walls]
 unfold pC;let N:k=0\/k=1\/k=2\/k=3:=by lia
 let rfl||rfl||rfl||rfl:=N
 .let(A,B,C):=T.lA (p:=bx.r-1) (q:=bx.t-1) (P:=λx=>x.t=bx.t/\x.r=bx.r) (by lia) (by lia) (by lia) (by lia) (λo i=>⋯);let q:=(C A B).2 ρ;$({A,B,by simp?[aa];lia,by simp?[aa];lia,λy a=>key y a _<|(T.jU c a s u).trans ⟨λh=>?_,λh=>ι ⟨ρ,ρ,(C y a).2 h⟩⟩});simp!
 .let(D,E,d):=T.lA (p:=bx.r-1) (q:=bx.b) (P:=λx=>x.r=bx.r/\x.b=bx.b) (by lia) (by lia) (by lia) ∅ (λo i=>⋯);let q:=(d D E).2 ρ;$({D,E,by simp?[aa,ag];lia,by simp?[aa,ag];lia,λy a=>key y a _<|(T.jU c a u v).trans ⟨λh=>?_,λh=>τ<|ι ⟨ρ,ρ,(d y a).2 h⟩⟩});let(h,_)||(_,_,h)||(h,_)||(h,_):=h
  .cases K h.symm
  .exact (d y a).1 h
  .cases j h
  cases M h
 .let(F,G,f):=T.lA (p:=bx.l) (q:=bx.b) (P:=λx=>x.b=bx.b/\x.l=bx.l) (by lia) ∅ (by lia) ∅ (λo i=>⋯);let q:=(f F G).2 ρ;$({F,G,by simp?[aa,ag];lia,by simp?[aa,ag];lia,λy a=>key y a _<|(T.jU c a v z).trans ⟨λh=>?_,λh=>τ<|τ<|ι ⟨ρ,ρ,(f y a).2 h⟩⟩});let(h,_)||(h,_)||(_,_,h)||(h,_):=h
  .cases L h.symm
  .cases j h.symm
  .exact (f y a).1 h
  cases sW h
 let(H,I,J):=T.lA (p:=bx.l) (q:=bx.t-1) (P:=λx=>x.l=bx.l/\x.t=bx.t) (by lia) ∅ (by lia) ∅ (λo i=>by$_);let q:=(J H I).2 ρ;$({H,I,by simp?[aa,ag];lia,by simp?[aa,ag];lia,λy a=>key y a _<|(T.jU c a z s).trans ⟨λh=>?_,λh=>τ<|τ<|τ ⟨ρ,ρ,(J y a).2 h⟩⟩});simp!
end
structure j0 {α:Type} [DecidableEq α] (rooms:List α) (w:Nat->α) (ring:α->List α) (lt:α->α->Bool):Prop where
 C:eV rooms [w 0,w 1,w 2,w 3] ring
 oW:[w 0,w 1,w 2,w 3].Nodup
 ww:∀x∈rooms,∀j k,j<4->k<4->aO (ring x) (w j) (w k)->k=(j+1)%4
 row:∀k,k<4->∃x∈rooms,(∀y∈rooms,aO (ring y) (w k) (w<|(k+1)%4)↔y=x)/\∃l,Row rooms ring (w k) x l/\l.Nodup/\∀y,y∈l↔y∈rooms/\w k∈ring y
 all:∀x∈rooms,x∈reach rooms [w 0,w 1,w 2,w 3] ring rooms.length
 zD:(corners rooms ring).countP (canon rooms lt)+rooms.length=aB (λx=>(ring x).countP λy=>!ai rooms y) rooms+aB (λx=>(ring x).countP λy=>ai rooms y&&lt x y) rooms+1
section
variable{α:Type}[DecidableEq α]{rooms rooms' walls:List α}{w:Nat->α}{ring ring':α->List α}{lt:α->α->Bool}
def hV(l a:List α):Prop:=∃A B,l=A++B/\a=B++A
theorem hV.perm{l a:List α}(h:hV l a):a.Perm l:=by let(A,B,rfl,rfl):=h;$aaD
def hV.symm (h:hV l a):hV a l:=by let(A,B,rfl,rfl):=h;$(⟨B,A,ρ,ρ⟩)
def hV.succ (h:hV l b)(s:aO l n m):aO b n m:=by
 let(A,B,rfl,rfl):=h;let(i,c,a):=s;let hi:=(bg.1 c).1;rw[fk]at hi a;$$(aO);rw[fk];let get:∀j,j<A.length+B.length->(B++A)[(j+B.length)%(B.length+A.length)]?=(A++B)[j]?:=λj d=>by
  ext(f:j<A.length)
  .rw[lr ∅,hO ⋯,hH f]
   congr 1;$_
  let e:(j+B.length)%(B.length+A.length)=j-A.length:=by rw[show j+B.length=(j-A.length)+(B.length+A.length)from by$_,Nat.add_mod_right,lr ∅]
  rw[e,hH ∅,hO ∅]
 refine{(i+B.length)%(B.length+A.length),by rw[get i hi];$c,?_};let d:(i+1)%(A.length+B.length)<A.length+B.length:=aca _ ∅;rw[<-get _ d]at a;simp[<-a];congr 1;let g:((i+B.length)%(B.length+A.length)+1)%(B.length+A.length)=(i+B.length+1)%(B.length+A.length):=by rw[af1,Nat.mod_mod,<-af1]
 let k:((i+1)%(A.length+B.length)+B.length)%(B.length+A.length)=(i+1+B.length)%(B.length+A.length):=by simp[afL]
 simp[k];congr 1
 lia
def hV.et (h:hV l a):aO a n m↔aO l n m:=⟨h.symm.succ,h.succ⟩
theorem Ia (p:l.Perm b):aB f l=aB f b:=by
 induction p with
 |nil=>rfl
 |cons x _ c=>show f x+_=f x+_;rw[c]
 |swap x y l=>show f y+(f x+aB f l)=f x+(f y+aB f l);lia
 |trans _ _ d e=>rw[d,e]
def Lw(p:rooms'.Perm rooms)(a:α):ai rooms' a=ai rooms a:=by$(decide_eq_decide.2 p.mem_iff)
theorem j0.turn(h:j0 rooms w ring lt)(p:rooms'.Perm rooms)(t:∀x∈rooms,hV (ring x)<|ring' x):j0 rooms' w ring' lt:=by
 let mem:∀{x:α},x∈rooms'↔x∈rooms:=λ{x}=>p.mem_iff
 let u:eV rooms' [w 0,w 1,w 2,w 3] ring':={
  ie:=p.nodup_iff.2 h.C.ie
  cO:=λx hx=>h.C.cO x<|mem.1 hx
  nd:=λx hx=>(t x<|mem.1 hx).perm.nodup_iff.2 (h.C.nd x<|mem.1 hx)
  len:=λx hx=>by rw[(t x<|mem.1 hx).perm.length_eq];$(h.C.len x<|mem.1 hx)
  mem:=λx hx y d=>(h.C.mem x (mem.1 hx) y<|(t x<|mem.1 hx).perm.mem_iff.1 d).imp mem.2 id
  fB:=λx hx d=>h.C.fB x (mem.1 hx)<|(t x<|mem.1 hx).perm.mem_iff.1 d
  sym:=λx hx y d v=>(t y<|mem.1 d).perm.mem_iff.2 (h.C.sym x (mem.1 hx) y (mem.1 d)<|(t x<|mem.1 hx).perm.mem_iff.1 v)
  gx:=λx hx n m s f=>(t n<|mem.1 f).succ (h.C.gx x (mem.1 hx) n m ((t x<|mem.1 hx).et.1 s)<|mem.1 f)
  gb:=λx hx n m s A=>(t m<|mem.1 A).succ (h.C.gb x (mem.1 hx) n m ((t x<|mem.1 hx).et.1 s)<|mem.1 A)}
 let row:∀{wl a:α}{l:List α},Row rooms ring wl a l->Row rooms' ring' wl a l:=λ{wl a l} r=>by
  induction r with
  |stop f=>$(.stop λz=>f (mem.1 z))
  |go B s _ i=>$(.go (mem.2 B) ((t _ B).succ s) i)
 let D:∀k x,x∈reach rooms [w 0,w 1,w 2,w 3] ring k->x∈reach rooms' [w 0,w 1,w 2,w 3] ring' k:=by
  ext k;induction k with
  |zero=>$(λx hx=>hx)
  |succ k i =>
   ext x hx;let hx||hx:=el.1 hx
   .$(el.2<|ι hx)
   let(g,E):=gg.1 hx;let(y,d,e):=ll.1 E;$(el.2<|τ<|gg.2 ⟨mem.2 g,ll.2 ⟨y,(t x g).perm.mem_iff.2 d,?_⟩⟩);$(decide_eq_true<|i y<|of_decide_eq_true e)
 $({u,h.oW,λx hx j k F o s=>h.ww x (mem.1 hx) j k F o<|(t x<|mem.1 hx).et.1 s,λk o=>?_,λx hx=>?_,?_})
 .let(x,hx,g,l,r,n,e):=h.row k o;$({x,mem.2 hx,λy d=>?_,l,row r,n,λy=>?_})
  .rw[(t y<|mem.1 d).et];$(g y<|mem.1 d)
  rw[e y];constructor
  .ext⟨a,b⟩;$({mem.2 a,(t y a).perm.mem_iff.2 b})
  ext⟨a,b⟩;$({mem.1 a,(t y<|mem.1 a).perm.mem_iff.1 b})
 .rw[p.length_eq];$(D _ x<|h.all x<|mem.1 hx)
 let q:ai rooms'=ai rooms:=funext<|Lw p;let G:canon rooms' lt=canon rooms lt:=by$$(canon);rw[q]
 let c:(corners rooms' ring').countP (canon rooms' lt)=(corners rooms ring).countP (canon rooms lt):=by
  rw[G];$(List.Perm.countP_eq _<|(mm (kU u)<|kU h.C).2 ?_);ext⟨x,n,m⟩;rw[fy,fy,mem];constructor
  .ext⟨a,b⟩;$({a,(t x a).et.1 b})
  ext⟨a,b⟩;$({a,(t x a).et.2 b})
 let H:aB (λx=>(ring' x).countP λy=>!ai rooms' y) rooms'=aB (λx=>(ring x).countP λy=>!ai rooms y) rooms:=by rw[Ia p,q];$(cZ λx hx=>(t x hx).perm.countP_eq _)
 let I:aB (λx=>(ring' x).countP λy=>ai rooms' y&&lt x y) rooms'=aB (λx=>(ring x).countP λy=>ai rooms y&&lt x y) rooms:=by rw[Ia p,q];$(cZ λx hx=>(t x hx).perm.countP_eq _)
 simp?[c,H,I,p.length_eq];$h.zD
end
section
variable{α β:Type}[DecidableEq α][DecidableEq β]
def aO.map (ν:α->β)(h:aO l n m):aO (l.map ν) (ν n) (ν m):=by let(i,a,h2):=h;$({i,by rw[ee,a];rfl,by simp!})
def aO.of_map (h:aO (l.map ν) a b):∃n m,a=ν n/\b=ν m/\aO l n m:=by let(i,d,c):=h;rw[ee]at d c;rw[a8]at c;let(n,e,rfl):=gs.1 d;let(m,f,rfl):=gs.1 c;$(⟨n,m,ρ,ρ,i,e,f⟩)
end
section
variable{bx:Ob}{os:List Ob}{β:Type}[DecidableEq β]{ν:Ob->β}{ring':β->List β}{lt:β->β->Bool}
def kS(a:bx.ok)(hj:j<4)(hk:k<4)(h:wall bx j=wall bx k):j=k:=by
 delta Ob.ok at a;let c:j=0\/j=1\/j=2\/j=3:=by lia
 let d:k=0\/k=1\/k=2\/k=3:=by lia
 let e:wall bx 0=wN bx:=ρ;let f:wall bx 1=wE bx:=ρ;let g:wall bx 2=wS bx:=ρ;let i:wall bx 3=wW bx:=ρ;let m:=congrArg Ob.l h;let n:=congrArg Ob.b h;let o:=congrArg Ob.r h;let p:=congrArg Ob.t h;let rfl||rfl||rfl||rfl:=c<;>let rfl||rfl||rfl||rfl:=d<;>first|rfl|(exfalso;simp?[e,f,g,i,wN,wE,wS,wW]at m n o p;lia)
theorem aD.yc(T:aD bx os)(u:bx.ok)(nd:(os++walls bx).Nodup)(inj:∀a∈os++walls bx,∀b∈os++walls bx,ν a=ν b->a=b)(A:∀x∈os,ring' (ν x)=(bD (os++walls bx) x).map ν)(O:Order lt):j0 (os.map ν) (λk=>ν<|wall bx k) ring' lt:=by
 let C:=T.closed u nd;let v:∀{a:Ob},a∈os->a∈os++walls bx:=λh=>el.2<|ι h;let E:∀{a:Ob},a∈walls bx->a∈os++walls bx:=λh=>el.2<|τ h;let o:∀{x y:Ob},y∈bD (os++walls bx) x->y∈os++walls bx:=λh=>(iB.1 h).1;let inR:∀{y:Ob},y∈os++walls bx->ν y∈os.map ν->y∈os:=λ{y} d h=>by let(z,H,e):=a5.1 h;rwa[<-inj z (v H) y d e]
 let D:∀{x n m:Ob},x∈os->n∈os++walls bx->m∈os++walls bx->(aO (ring'<|ν x) (ν n) (ν m)↔aO (bD (os++walls bx) x) n m):=λ{x n m} hx I M=>by
  rw[A x hx];constructor
  .ext h;let(S,U,V,W,s):=h.of_map;simp?[inj n I S (o s.mem.1) V,inj m M U (o s.mem.2) W];$s
  $(λs=>s.map ν)
 let N:eV (os.map ν) ((walls bx).map ν) ring':={
  ie:=hF.2 (C.ie.imp_of_mem λi t B e=>B<|inj _ (v i) _ (v t) e)
  cO:=λa i hw=>by let(x,hx,rfl):=a5.1 i;let(y,d,e):=a5.1 hw;let:=inj y (E d) x (v hx) e;$$this;$(C.cO y hx d)
  nd:=λa i=>by let(x,hx,rfl):=a5.1 i;rw[A x hx];$(hF.2 ((C.nd x hx).imp_of_mem λi t B e=>B<|inj _ (o i) _ (o t) e))
  len:=λa i=>by let(x,hx,rfl):=a5.1 i;rw[A x hx,a8];$(C.len x hx)
  mem:=λa i b t=>by let(x,hx,rfl):=a5.1 i;rw[A x hx]at t;let(y,d,rfl):=a5.1 t;$((C.mem x hx y d).imp (λh=>a5.2 ⟨y,h,ρ⟩) (λh=>a5.2 ⟨y,h,ρ⟩))
  fB:=λa i t=>by let(x,hx,rfl):=a5.1 i;rw[A x hx]at t;let(y,d,e):=a5.1 t;let:=inj y (o d) x (v hx) e;$$this;$(C.fB y hx d)
  sym:=λa i b t h=>by let(x,hx,rfl):=a5.1 i;let(y,d,rfl):=a5.1 t;rw[A x hx]at h;let(z,H,e):=a5.1 h;let:=inj z (o H) y (v d) e;$$this;rw[A z d];$(a5.2 {x,C.sym x hx z d H,ρ})
  gx:=λa i b c s t=>by let(x,hx,rfl):=a5.1 i;let s':=s;rw[A x hx]at s';let(n,m,rfl,rfl,F):=s'.of_map;let I:=inR (o F.mem.1) t;$((D I (o F.mem.2)<|v hx).2 (C.gx x hx n m F I))
  gb:=λa i b c s hc=>by let(x,hx,rfl):=a5.1 i;let s':=s;rw[A x hx]at s';let(n,m,rfl,rfl,F):=s'.of_map;let M:=inR (o F.mem.2) hc;$((D M (v hx)<|o F.mem.1).2 (C.gb x hx n m F M))}
 let row:∀{w a:Ob}{l:List Ob},w∈walls bx->a∈os++walls bx->Row os (bD<|os++walls bx) w a l->Row (os.map ν) ring' (ν w) (ν a) (l.map ν):=λ{w a l} hw i r=>by
  induction r with
  |stop I=>$(.stop λz=>I (inR i z))
  | @go a p l h s _ J=>$(.go (a5.2 ⟨a,h,ρ⟩) ((D h (o s.mem.1)<|E hw).2 s)<|J<|o s.mem.1)
 let X:∀k x,x∈os++walls bx->x∈reach os (walls bx) (bD<|os++walls bx) k->ν x∈reach (os.map ν) ((walls bx).map ν) ring' k:=by
  ext k;induction k with
  |zero=>$(λx _ hx=>a5.2 ⟨x,hx,ρ⟩)
  |succ k J =>
   ext x hN hx;let hx||hx:=el.1 hx
   .$(el.2<|ι<|a5.2 ⟨x,hx,ρ⟩)
   let(P,K):=gg.1 hx;let(y,d,e):=ll.1 K;$(el.2<|τ<|gg.2 ⟨a5.2 ⟨x,P,ρ⟩,ll.2 ⟨ν y,?_,?_⟩⟩)
   .rw[A x P];$(a5.2 ⟨y,d,ρ⟩)
   $(decide_eq_true<|J y (o d)<|of_decide_eq_true e)
 let Q:∀{y:Ob},y∈os++walls bx->ai (os.map ν) (ν y)=ai os y:=λ{y} d=>by refine decide_eq_decide.2 {inR d,λh=>a5.2 ⟨y,h,ρ⟩}
 let L:∀(f:β->Nat) (g:Ob->Nat),(∀x∈os,f (ν x)=g x)->aB f (os.map ν)=aB g os:=λf g h=>by
  let:∀l:List Ob,(∀x∈l,f (ν x)=g x)->aB f (l.map ν)=aB g l:=by
   ext l;induction l with
   |nil=>ext _;rfl
   |cons a l J=>ext h;show f (ν a)+aB f (l.map ν)=g a+aB g l;simp?[h a ⋯,J λx hx=>h x (by simp[hx])]
  $(this os h)
 let Y:aB (λx=>(ring' x).countP (ai<|os.map ν)) (os.map ν)=aB (λx=>(bD (os++walls bx) x).countP (ai os)) os:=L _ _ λx hx=>by rw[A x hx,nA];$(pB λy d=>by show ai (os.map ν) (ν y)=bd↔_;rw[Q (o d)])
 let Z:aB (λx=>(ring' x).countP λy=>!ai (os.map ν) y) (os.map ν)=aB (λx=>(bD (os++walls bx) x).countP λy=>!ai os y) os:=L _ _ λx hx=>by rw[A x hx,nA];$(pB λy d=>by show(!ai (os.map ν) (ν y))=bd↔_;rw[Q (o d)])
 let a3:((corners (os.map ν) ring').countP λc=>!ai (os.map ν) c.2.1&&!ai (os.map ν) c.2.2)=4:=by
  rw[<-T.UQ u nd];let pm:(corners (os.map ν) ring').Perm ((corners os<|bD<|os++walls bx).map λc=>(ν c.1,ν c.2.1,ν c.2.2)):=by
   $((mm (kU N)<|hF.2<|(kU C).imp_of_mem ?_).2 ?_)
   .ext⟨x,n,m⟩ ⟨x',S,U⟩ h h' B e;let(hx,s):=fy.1 h;let(be,s'):=fy.1 h';simp at e;$(B (by simp?[inj x (v hx) x' (v be) e.1,inj n (o s.mem.1) S (o s'.mem.1) e.2.1,inj m (o s.mem.2) U (o s'.mem.2) e.2.2]))
   ext⟨a,b,c⟩;rw[fy];constructor
   .ext⟨i,s⟩;let(x,hx,rfl):=a5.1 i;rw[A x hx]at s;let(n,m,rfl,rfl,F):=s.of_map;$(a5.2 {(x,n,m),fy.2 ⟨hx,F⟩,ρ})
   ext h;let((x,n,m),K,e):=a5.1 h;$$$e;let(hx,s):=fy.1 K;$({a5.2 ⟨x,hx,ρ⟩,(D hx (o s.mem.1)<|o s.mem.2).2 s})
  rw[pm.countP_eq,nA];apply pB;ext⟨x,n,m⟩ h;let(hx,s):=fy.1 h;show(!ai (os.map ν) (ν n)&&!ai (os.map ν) (ν m))=bd↔_;rw[Q (o s.mem.1),Q<|o s.mem.2]
 let b1:=N.least O;let b2:=N.half O;let b3:=T.sums u nd;$({N,?_,?_,?_,?_,?_})
 .$(hF.2 ((hM.1 nd).2.1.imp_of_mem λi t B e=>B<|inj _ (E i) _ (E t) e))
 .ext a i j k R G s;let(x,hx,rfl):=a5.1 i;let f:=(T.jU u hx (gd bx j)<|gd bx k).1 ((T.et u hx nd (τ<|gd bx j)<|τ<|gd bx k).1 ((D hx (E<|gd bx j)<|E<|gd bx k).1 s));let e0:wN bx=wall bx 0:=ρ;let V:wE bx=wall bx 1:=ρ;let W:wS bx=wall bx 2:=ρ;let e3:wW bx=wall bx 3:=ρ;rw[e0,V,W,e3]at f;let(p,q,_)||(p,q,_)||(p,q,_)||(p,q,_):=f
  .rw[kS u R ⋯ p,kS u G ⋯ q]
  .rw[kS u R ⋯ p,kS u G ⋯ q]
  .rw[kS u R ⋯ p,kS u G ⋯ q]
  rw[kS u R ⋯ p,kS u G ⋯ q]
 .ext k G;let(x,hx,P,K,h3):=T.first u nd G;let(l,r,n,e):=T.row u nd G hx P K;$({ν x,a5.2 ⟨x,hx,ρ⟩,λb t=>?_,l.map ν,row (gd bx k) (v hx) r,hF.2 (n.imp_of_mem λi t B e'=>B<|inj _ (v ((e _).1 i).1) _ (v ((e _).1 t).1) e'),λb=>?_})
  .let(y,d,rfl):=a5.1 t;rw[D d (E<|gd bx k) (E<|gd bx _),h3 y d];$({λh=>by rw[h],λh=>inj y (v d) x (v hx) h})
  rw[a5];constructor
  .ext⟨y,d,rfl⟩;let(p,q):=(e y).1 d;$({a5.2 ⟨y,p,ρ⟩,?_});rw[A y p];$(a5.2 {_,(T.tied u p G).2 q,ρ})
  ext⟨p,q⟩;let(y,d,rfl):=a5.1 p;rw[A y d]at q;let(z,H,ez):=a5.1 q;let:=inj z (o H) _ (E<|gd bx k) ez;$$this;$({y,(e y).2 {d,(T.tied u d G).1 H},ρ})
 .ext a i;let(x,hx,rfl):=a5.1 i;rw[a8];$(X _ x (v hx)<|T.all_reached u nd hx)
 rw[Y,Z,a3]at b1;rw[Y]at b2;rw[Z,a8];lia
end
section
variable{α:Type}[DecidableEq α]{rooms rooms' walls:List α}{w:Nat->α}{ring ring':α->List α}{lt:α->α->Bool}{a b x q:α}
structure rZ (l:List α) (n m q:α) (l':List α):Prop where
 perm:l'.Perm (q::l)
 succ:∀u v,aO l' u v↔(aO l u v/\¬(u=n/\v=m))\/(u=n/\v=q)\/(u=q/\v=m)
theorem NZ{l:List α}{n m q:α}{i:Nat}(nd:l.Nodup)(hl:3<=l.length)(p:l[i]?=ac n)(D:l[(i+1)%l.length]?=ac m):rZ l n m q (l.take (i+1)++q::l.drop (i+1)):=by
 let hi:=(bg.1 p).1;let len:(l.take (i+1)++q::l.drop (i+1)).length=l.length+1:=by simp;lia
 let o:∀j,j<=i->(l.take (i+1)++q::l.drop (i+1))[j]?=l[j]?:=λj r=>by rw[hH (by rw[f'];$_),aa3,if_pos (by lia)]
 let y:(l.take (i+1)++q::l.drop (i+1))[i+1]?=ac q:=by rw[hO (by rw[f'];lia),f',aeZ (by lia),afJ];rfl
 let A:∀j,i<j->(l.take (i+1)++q::l.drop (i+1))[j+1]?=l[j]?:=λj r=>by
  rw[hO (by rw[f'];$_),f',aeZ (by lia),show j+1-(i+1)=(j-(i+1))+1 from by lia,adp,ab6]
  congr 1;$_
 $({List.perm_middle.trans (by rw[tz]),λu v=>?_});generalize l.take (i+1)++q::l.drop (i+1)=g at *;let nx:∀j t,j≠i->j<l.length->t=(if j<i then j else j+1)->g[t]?=l[j]?/\g[(t+1)%g.length]?=l[(j+1)%l.length]?:=λj t r hl' e=>by
  rw[len,e];ext(c:j<i)
  .rw[if_pos c];$({o j ∅,by rw[lr (by lia),lr (by lia)];$(o _ ∅)})
  rw[if_neg c];$({A j (by lia),?_});ext(s:j+1=l.length)
  .rw[s,z7,z7];$(o 0 (by lia))
  rw[lr ∅,lr ∅];$(A (j+1) ∅)
 let n1:g[(i+1)%g.length]?=ac q:=by rw[len,lr (by lia)];$y
 let n2:g[(i+1+1)%g.length]?=ac m:=by
  rw[len,<-D];ext(s:i+1=l.length)
  .rw[s,z7,z7];$(o 0 (by lia))
  rw[lr ∅,lr ∅];$(A (i+1) (by lia))
 constructor
 .ext⟨j,d,f⟩;let r:=(bg.1 d).1;ext(H:j=i)
  .$$H;rw[o j (eS _),p]at d;rw[n1]at f;$(τ<|ι ⟨(Option.some.inj d).symm,(Option.some.inj f).symm⟩)
  ext(s:j=i+1)
  .$$s;rw[y]at d;rw[n2]at f;$(τ<|τ ⟨(Option.some.inj d).symm,(Option.some.inj f).symm⟩)
  obtain⟨k,E,F,I⟩:∃k,k≠i/\k<l.length/\j=(if k<i then k else k+1):=by
   ext(c:j<i)
   .$({j,∅,by lia,(if_pos c).symm})
   $({j-1,∅,∅,by rw[if_neg ∅];lia})
  let(B,C):=nx k j E F I;rw[B]at d;rw[C]at f;$(ι {⟨k,d,f⟩,λz=>E<|kd nd (by rw[d,z.1]) p})
 ext (⟨⟨j,d,f⟩,h⟩|⟨rfl,rfl⟩|⟨rfl,rfl⟩)
 .let r:=(bg.1 d).1;let G:j≠i:=λz=>h (by$$z;rw[p]at d;rw[D]at f;$({(Option.some.inj d).symm,(Option.some.inj f).symm}))
  let(B,C):=nx j _ G r ρ;$({_,B.trans d,C.trans f})
 .$({i,(o i<|eS _).trans p,n1})
 $({i+1,y,n2})
structure iI (rooms walls:List α) (ring:α->List α) (x a b q:α) (ring':α->List α):Prop where
 hx:x∈rooms
 ab:aO (ring x) a b
 qr:q∉rooms
 qw:q∉walls
 rq:ring' q=[x,a,b]
 rx:rZ (ring x) a b q (ring' x)
 ra:a∈rooms->rZ (ring a) b x q (ring' a)
 rb:b∈rooms->rZ (ring b) x a q (ring' b)
 ro:∀y∈rooms,y≠x->y≠a->y≠b->ring' y=ring y
theorem MT{x a b u v:α}(h:x≠a/\x≠b/\a≠b):aO [x,a,b] u v↔(u=x/\v=a)\/(u=a/\v=b)\/(u=b/\v=x):=by
 constructor
 .ext⟨i,c,d⟩;let hi:=(bg.1 c).1;simp?[fq,T']at hi;let:i=0\/i=1\/i=2:=by lia
  let rfl||rfl||rfl:=this<;>simp at c d<;>simp[c,d]
 ext (⟨rfl,rfl⟩|⟨rfl,rfl⟩|⟨rfl,rfl⟩)
 .$({0,ρ,ρ})
 .$({1,ρ,ρ})
 $({2,ρ,⋯})
section
variable(C:eV rooms walls ring)(p:iI rooms walls ring x a b q ring')
include C p
theorem iI.facts:x≠a/\x≠b/\a≠b/\(a∈rooms\/a∈walls)/\(b∈rooms\/b∈walls)/\q≠x/\q≠a/\q≠b/\(a∈rooms->aO (ring a) b x)/\(b∈rooms->aO (ring b) x a):=by
 let(f,g,h):=C.apart p.hx p.ab;let c:=C.mem x p.hx a p.ab.mem.1;let d:=C.mem x p.hx b p.ab.mem.2;$({f,g,h,c,d,λe=>p.qr<|e ▸ p.hx,?_,?_,C.gx x p.hx a b p.ab,C.gb x p.hx a b p.ab})
 .ext rfl;$(c.elim p.qr p.qw)
 ext rfl;$(d.elim p.qr p.qw)
theorem iI.succ{z u v:α}(c:z∈q::rooms):aO (ring' z) u v↔(z∈rooms/\aO (ring z) u v/\¬(z=x/\u=a/\v=b)/\¬(z=a/\u=b/\v=x)/\¬(z=b/\u=x/\v=a))\/(z=x/\u=a/\v=q)\/(z=x/\u=q/\v=b)\/(z=a/\a∈rooms/\u=b/\v=q)\/(z=a/\a∈rooms/\u=q/\v=x)\/(z=b/\b∈rooms/\u=x/\v=q)\/(z=b/\b∈rooms/\u=q/\v=a)\/(z=q/\u=x/\v=a)\/(z=q/\u=a/\v=b)\/(z=q/\u=b/\v=x):=by
 let(h,i,j,h4,h5,h6,h7,h8,h9,h10):=p.facts C;let rfl||c:=dV.1 c
 .rw[p.rq,MT ⟨h,i,j⟩];let:=p.qr;simp!
 let hq:z≠q:=λe=>p.qr (e ▸ c);ext(d:z=x)
 .$$d;rw[p.rx.succ];simp!
 ext(f:z=a)
 .$$f;rw[(p.ra c).succ];simp!
 ext(g:z=b)
 .$$g;rw[(p.rb c).succ];simp!
 simp?[p.ro z c d f g];simp!
theorem iI.mem{z y:α}(c:z∈q::rooms):y∈ring' z↔(z∈rooms/\y∈ring z)\/(y=q/\z∈rooms/\(z=x\/z=a\/z=b))\/(z=q/\(y=x\/y=a\/y=b)):=by
 let(h1,h2,h3,h4,h5,h6,h7,h8,h9,h10):=p.facts C;let rfl||c:=dV.1 c
 .rw[p.rq];let:=p.qr;simp?[dV,eT,or_false];simp!
 let hq:z≠q:=λe=>p.qr (e ▸ c);ext(d:z=x)
 .$$d;rw[p.rx.perm.mem_iff,dV];grind
 ext(f:z=a)
 .$$f;rw[(p.ra c).perm.mem_iff,dV];grind
 ext(g:z=b)
 .$$g;rw[(p.rb c).perm.mem_iff,dV];grind
 rw[p.ro z c d f g];simp!
theorem iI.closed:eV (q::rooms) walls ring':=by
 let(h1,h2,h3,h4,h5,h6,r,t,h9,h10):=p.facts C;let S:=λz u v (f:z∈q::rooms)=>p.succ C (u:=u) (v:=v) f;let M:=λz y (f:z∈q::rooms)=>p.mem C (y:=y) f;let A:∀z∈rooms,q∉ring z:=λz f e=>(C.mem z f q e).elim p.qr p.qw;let F:∀z u v,z∈rooms->aO (ring z) u v->u≠q/\v≠q:=λz u v f s=>{λe=>A z f<|e ▸ s.mem.1,λe=>A z f<|e ▸ s.mem.2};let G:∀z∈rooms,ring' z=ring z\/(ring' z).Perm (q::ring z):=λz f=>by
  ext(B:z=x)
  .$$B;$(τ p.rx.perm)
  ext(H:z=a)
  .$$H;$(τ (p.ra f).perm)
  ext(I:z=b)
  .$$I;$(τ (p.rb f).perm)
  $(ι<|p.ro z f B H I)
 $({
  ie:=iN.2 ⟨p.qr,C.ie⟩
  cO:=λz f=>by
   let rfl||f:=dV.1 f
   .$p.qw
   $(C.cO z f)
  nd:=λz f=>by
   let rfl||f:=dV.1 f
   .rw[p.rq];simp;simp!
   let e||e:=G z f
   .rw[e];$(C.nd z f)
   $(e.nodup_iff.2<|iN.2 ⟨A z f,C.nd z f⟩)
  len:=λz f=>by
   let rfl||f:=dV.1 f
   .rw[p.rq];simp
   let:=C.len z f;let e||e:=G z f
   .rw[e];$this
   simp?[e.length_eq,fq];lia
  mem:=λz f y k=>by let:=C.mem z;let:=p.hx;simp?[M z y f]at k;rw[dV];grind
  fB:=λz f k=>by let:=C.fB z;let:=p.qr;rw[M z z f]at k;grind
  sym:=λz f y k J=>by let m1:=p.ab.mem;let:=p.qr;let:=C.sym z;let:=C.sym y;let:=A z;let B:=C.sym x p.hx;let:=p.hx;rw[M z y f]at J;rw[M y z k];simp?[dV]at f k;grind
  gx:=λz f n m s l=>by
   rw[S n m z l];let h:n≠q->n∈rooms:=(dV.1 l).resolve_left;let(i,s,n1,n2,n3)||(g,c,d)||(g,c,d)||(g,D,c,d)||(g,D,c,d)||(g,E,c,d)||(g,E,c,d)||(g,c,d)||(g,c,d)||(g,c,d):=(S z n m f).1 s
   .let l:=h (F z n m i s).1;$(ι {l,C.gx z i n m s l,λe=>n3 ⟨e.2.2,e.1,e.2.1⟩,λe=>n1 ⟨e.2.2,e.1,e.2.1⟩,λe=>n2 ⟨e.2.2,e.1,e.2.1⟩})
   .$(τ<|τ<|τ<|τ<|ι ⟨c,c ▸ h (c ▸ r.symm),d,g⟩)
   .$(τ<|τ<|τ<|τ<|τ<|τ<|τ<|τ<|τ<|⟨c,d,g⟩)
   .$(τ<|τ<|τ<|τ<|τ<|τ<|ι ⟨c,c ▸ h (c ▸ t.symm),d,g⟩)
   .$(τ<|τ<|τ<|τ<|τ<|τ<|τ<|ι ⟨c,d,g⟩)
   .$(τ<|τ<|ι ⟨c,d,g⟩)
   .$(τ<|τ<|τ<|τ<|τ<|τ<|τ<|τ<|ι ⟨c,d,g⟩)
   .$(τ<|ι ⟨c,d,g⟩)
   .$(τ<|τ<|τ<|ι ⟨c,c ▸ h (c ▸ r.symm),d,g⟩)
   $(τ<|τ<|τ<|τ<|τ<|ι ⟨c,c ▸ h (c ▸ t.symm),d,g⟩)
  gb:=λz f n m s o=>by
   rw[S m z n o];let j:m≠q->m∈rooms:=(dV.1 o).resolve_left;let(i,s,n1,n2,n3)||(g,c,d)||(g,c,d)||(g,D,c,d)||(g,D,c,d)||(g,E,c,d)||(g,E,c,d)||(g,c,d)||(g,c,d)||(g,c,d):=(S z n m f).1 s
   .let o:=j (F z n m i s).2;$(ι {o,C.gb z i n m s o,λe=>n2 ⟨e.2.1,e.2.2,e.1⟩,λe=>n3 ⟨e.2.1,e.2.2,e.1⟩,λe=>n1 ⟨e.2.1,e.2.2,e.1⟩})
   .$(τ<|τ<|τ<|τ<|τ<|τ<|τ<|ι ⟨d,g,c⟩)
   .$(τ<|τ<|τ<|τ<|τ<|ι ⟨d,d ▸ j (d ▸ t.symm),g,c⟩)
   .$(τ<|τ<|τ<|τ<|τ<|τ<|τ<|τ<|ι ⟨d,g,c⟩)
   .$(τ<|ι ⟨d,g,c⟩)
   .$(τ<|τ<|τ<|τ<|τ<|τ<|τ<|τ<|τ<|⟨d,g,c⟩)
   .$(τ<|τ<|τ<|ι ⟨d,d ▸ j (d ▸ r.symm),g,c⟩)
   .$(τ<|τ<|τ<|τ<|ι ⟨d,d ▸ j (d ▸ r.symm),g,c⟩)
   .$(τ<|τ<|τ<|τ<|τ<|τ<|ι ⟨d,d ▸ j (d ▸ t.symm),g,c⟩)
   $(τ (τ<|ι ⟨d,g,c⟩))})
end
theorem aO.before{l:List α}(nd:l.Nodup){p c v:α}(h:aO l p v)(h':aO l c v):p=c:=by
 let(i,d,m):=h;let(j,g,n):=h';let hi:=(bg.1 d).1;let o:=(bg.1 g).1;let e:=kd nd m n;let f:∀k,k<l.length->(k+1)%l.length=if k+1=l.length then 0 else k+1:=λk hk=>by
  split
  .ext1 z;rw[z,z7]
  exact lr (by lia)
 simp?[f i hi,f j o]at e;let:i=j:=by$$$$$e<;>$$$$$e<;>lia
 subst this;$(Option.some.inj<|d.symm.trans g)
theorem wO{W s p0:α}(nd:∀z∈rooms,(ring z).Nodup)(n:s∈rooms->aO (ring s) p0 W/\aO (ring' s) q W/\aO (ring' q) p0 W)(st:∀y∈rooms,∀p,aO (ring y) p W->p≠q/\(y≠s->aO (ring' y) p W)){y:α}{l:List α}(r:Row rooms ring W y l) :
  y≠q->l.Nodup->∃e,Row (q::rooms) ring' W y e/\(s∈l->e.Perm (q::l))/\(s∉l->e=l):=by
 induction r with
 |stop h=>$(λi _=>{[],.stop (by simp[i,h]),λz=>(by$$$z),λ_=>rfl})
 | @go y p l d f _ o =>
  ext i t;let(j,k):=iN.1 t;let(u,g,v,m):=o (st y d p f).1 k;ext(c:y=s)
  .$$c;let(A,B,C):=n d;simp?[f.before (nd y d) A,m j]at g;$({y::q::l,.go (eH _ d) B<|.go eR C g,λ_=>.swap _ _ _,λz=>absurd eR z})
  $({y::u,.go (eH _ d) ((st y d p f).2 c) g,λz=>?_,λz=>?_})
  .$(((v<|(dV.1 z).resolve_left (Ne.symm c)).cons y).trans (.swap _ _ _))
  rw[m λh=>z<|eH _ h]
theorem Cc(C:eV rooms [w 0,w 1,w 2,w 3] ring)(oW:[w 0,w 1,w 2,w 3].Nodup)(ww:∀x∈rooms,∀j k,j<4->k<4->aO (ring x) (w j) (w k)->k=(j+1)%4)(f:∀k,k<4->∃x∈rooms,∀y∈rooms,aO (ring y) (w k) (w<|(k+1)%4)↔y=x) :
  ((corners rooms ring).countP λc=>!ai rooms c.2.1&&!ai rooms c.2.2)=4:=by
 let(A,h,i):=f 0 ⋯;let(B,l,m):=f 1 ⋯;let(D,n,o):=f 2 ⋯;let(E,p,r):=f 3 ⋯
 let cO:∀k,k<4->w k∉rooms:=λk t F=>C.cO _ F (by
  let:k=0\/k=1\/k=2\/k=3:=∅
  let rfl||rfl||rfl||rfl:=this<;>simp)
 let at_:∀u,u∈[w 0,w 1,w 2,w 3]->∃k,k<4/\u=w k:=λu g=>by
  simp?[dV,eT,or_false]at g;let rfl||rfl||rfl||rfl:=g
  .$({0,⋯,rfl})
  .$({1,⋯,rfl})
  .$({2,⋯,rfl})
  $({3,⋯,rfl})
 rw[ph];let:((corners rooms ring).filter λc=>!ai rooms c.2.1&&!ai rooms c.2.2).Perm [(A,w 0,w 1),(B,w 1,w 2),(D,w 2,w 3),(E,w 3,w 0)]:=by
  $((mm (k9 n5<|kU C) ?_).2 ?_)
  .simp?[iN,dV,eT,or_false,not_or]at oW;simp;grind
  ext⟨z,u,v⟩;rw[gg,fy];simp?[ai,ec,l4,decide_eq_false_iff_not,dV,eT,or_false,abN];constructor
  .ext⟨⟨d,s⟩,g,G⟩;let(j,H,rfl):=at_ u<|(C.mem z d u s.mem.1).resolve_left g;let(k,t,rfl):=at_ v<|(C.mem z d v s.mem.2).resolve_left G;let e:=ww z d j k H t s;$$e;let:j=0\/j=1\/j=2\/j=3:=∅
   let rfl||rfl||rfl||rfl:=this
   .$(ι {(i z d).1 s,ρ,ρ})
   .$(τ<|ι ⟨(m z d).1 s,ρ,ρ⟩)
   .$(τ<|τ<|ι ⟨(o z d).1 s,ρ,ρ⟩)
   $(τ<|τ<|τ ⟨(r z d).1 s,ρ,ρ⟩)
  ext (⟨rfl,rfl,rfl⟩|⟨rfl,rfl,rfl⟩|⟨rfl,rfl,rfl⟩|⟨rfl,rfl,rfl⟩)
  .$({{h,(i _ h).2 ρ},cO 0 ⋯,cO 1 ⋯})
  .$({{l,(m _ l).2 ρ},cO 1 ⋯,cO 2 ⋯})
  .$({{n,(o _ n).2 ρ},cO 2 ⋯,cO 3 ⋯})
  $({{p,(r _ p).2 ρ},cO 3 ⋯,cO 0 ⋯})
 rw[this.length_eq];rfl
section
variable(C:eV rooms walls ring)(p:iI rooms walls ring x a b q ring')
include C p
theorem iI.perm{z:α}(c:z∈rooms):(ring' z).Perm (if z=x\/z=a\/z=b then q::ring z else ring z):=by
 ext(d:z=x)
 .$$d;rw[if_pos ⋯];$p.rx.perm
 ext(e:z=a)
 .$$e;rw[if_pos ⋯];$((p.ra c).perm)
 ext(f:z=b)
 .$$f;rw[if_pos ⋯];$((p.rb c).perm)
 rw[if_neg (by simp[d,e,f]),p.ro z c d e f]
theorem iI.Oa{z:α}(d:z∈rooms):(ring' z).countP (ai (q::rooms))=(ring z).countP (ai rooms)+(if(am (z=x)||am (z=a)||am (z=b))=bd then 1 else 0):=by
 let f:q∉ring z:=λe=>(C.mem z d q e).elim p.qr p.qw;let e:(ring z).countP (ai (q::rooms))=(ring z).countP (ai rooms):=by$(pB λy g=>?_);let:y≠q:=λe=>f<|e ▸ g;simp[ai,this]
 rw[(p.perm C d).countP_eq];ext(c:z=x\/z=a\/z=b)
 .rw[if_pos c,if_pos (by simpa[or_assoc]using c),ia,e,if_pos (by simp[ai])]
 rw[if_neg c,if_neg (by simpa[or_assoc]using c),e];rfl
theorem iI.OZ{z:α}(d:z∈rooms):((ring' z).countP λy=>!ai (q::rooms) y)=(ring z).countP λy=>!ai rooms y:=by
 let f:q∉ring z:=λe=>(C.mem z d q e).elim p.qr p.qw;let e:((ring z).countP λy=>!ai (q::rooms) y)=(ring z).countP λy=>!ai rooms y:=by$(pB λy g=>?_);let:y≠q:=λe=>f<|e ▸ g;simp[ai,this]
 rw[(p.perm C d).countP_eq];ext(c:z=x\/z=a\/z=b)
 .rw[if_pos c,ia,e,if_neg (by simp[ai])];rfl
 rw[if_neg c,e]
theorem iI.ties:(rooms.countP λz=>am (z=x)||am (z=a)||am (z=b))=1+(if a∈rooms then 1 else 0)+(if b∈rooms then 1 else 0):=by
 let(h1,h2,h3,_):=p.facts C;let cnt:∀c,rooms.countP (λz=>am<|z=c)=if c∈rooms then 1 else 0:=λc=>by
  split
  .ext1 g;$(mv C.ie {c,g,⋯} λu _ v _ d f=>by simp at d f;simp?[d,f])
  ext1 g;rw[vj];ext z h;simp;$(λe=>g<|e ▸ h)
 let:=p.hx;let d:=gh (λz=>am (z=x)||am (z=a)||am (z=b)) (λz=>am<|z=x) rooms;let f:=gh (λz=>(am (z=x)||am (z=a)||am (z=b))&&!am (z=x)) (λz=>am<|z=a) rooms;simp?[d,f];let i:(λz=>(am (z=x)||am (z=a)||am (z=b))&&am (z=x))=λz=>am (z=x):=by funext z;simp!
 let j:(λz=>(am (z=x)||am (z=a)||am (z=b))&&!am (z=x)&&am (z=a))=λz=>am (z=a):=by funext z;grind
 let g3:(λz=>(am (z=x)||am (z=a)||am (z=b))&&!am (z=x)&&!am (z=a))=λz=>am (z=b):=by funext z;grind
 simp?[i,j,g3,cnt,cnt,cnt,if_pos p.hx];lia
end
theorem HM{C:eV rooms walls ring}:∀k y,y∈reach rooms walls ring k->y∈reach rooms walls ring (k+1)
 |0,y,h=>el.2 (ι h)
 | k+1,y,h=>by
  let h||h:=el.1 h
  .$(el.2<|ι h)
  let(c,d):=gg.1 h;let(z,f,e):=ll.1 d;$(el.2<|τ<|gg.2 ⟨c,ll.2 ⟨z,f,decide_eq_true<|HM (C:=C) k z<|of_decide_eq_true e⟩⟩)
theorem j0.put(h:j0 rooms w ring lt)(p:iI rooms [w 0,w 1,w 2,w 3] ring x a b q ring')(O:Order lt):j0 (q::rooms) w ring' lt:=by
 let C:=h.C;let D:=p.closed C;let(h1,h2,h3,h4,h5,X,Y,Z,h9,P):=p.facts C;let K:∀k,k<4->w k∈[w 0,w 1,w 2,w 3]:=λk f=>by
  let:k=0\/k=1\/k=2\/k=3:=by lia
  let rfl||rfl||rfl||rfl:=this<;>simp
 let at_:∀u,u∈[w 0,w 1,w 2,w 3]->∃k,k<4/\u=w k:=λu hu=>by
  simp?[dV,eT,or_false]at hu;let rfl||rfl||rfl||rfl:=hu
  .exact{0,⋯,rfl}
  .exact{1,⋯,rfl}
  .exact{2,⋯,rfl}
  exact{3,⋯,rfl}
 let E:∀k,k<4->w k∉rooms/\w k≠q/\w k≠x:=λk f=>{λz=>C.cO _ z<|K k f,λz=>p.qw<|z ▸ K k f,λz=>C.cO x p.hx<|z ▸ K k f};let G:∀z u v,z∈rooms->aO (ring z) u v->u≠q/\v≠q:=λz u v d s=>{λe=>(C.mem z d u s.mem.1).elim (e ▸ p.qr) (e ▸ p.qw),λe=>(C.mem z d v s.mem.2).elim (e ▸ p.qr) (e ▸ p.qw)};let ww:∀z∈q::rooms,∀j k,j<4->k<4->aO (ring' z) (w j) (w k)->k=(j+1)%4:=λz d j k H f s=>by let w1:=E j H;let w2:=E k f;let o1:=λd=>h.ww z d j k H f;let o2:=h.ww x p.hx j k H f;let ab:=p.ab;rw[p.succ C d]at s;clear D E K at_ G;grind
 let row:∀k,k<4->∃y∈q::rooms,(∀z∈q::rooms,aO (ring' z) (w k) (w<|(k+1)%4)↔z=y)/\∃l,Row (q::rooms) ring' (w k) y l/\l.Nodup/\∀z,z∈l↔z∈q::rooms/\w k∈ring' z:=λk f=>by
  let(o,A,Q,l,L,n,r):=h.row k f;let w1:=E k f;let w2:=E ((k+1)%4)<|aca _ ⋯;let B:o≠q:=λe=>p.qr<|e ▸ A;let I:∀z∈l,z∈rooms:=λz d=>((r z).1 d).1;let qr:=p.qr;let hx:=p.hx;let ab:=p.ab;let M:∀z∈q::rooms,w k∈ring' z↔(z∈rooms/\w k∈ring z)\/(z=q/\(w k=a\/w k=b)):=λz d=>by rw[p.mem C d];simp!
  let S:=λz u v (d:z∈rooms)=>p.succ C (u:=u) (v:=v)<|eH q d;let R:=λu v=>p.succ C (u:=u) (v:=v)<|eR (a:=q) (l:=rooms);ext(N:w k=a/\w ((k+1)%4)=b)
  .let ex:x=o:=(Q x hx).1 (by simp?[N.1,N.2];$ab);let m:b∉rooms:=N.2 ▸ w2.1;let(J,g,_,T):=wO (ring':=ring') (s:=q) (p0:=q) C.nd (λz=>absurd z qr) (λy c u s=>{(G y u _ c s).1,λ_=>(S y u _ c).2 (ι {c,s,by grind})}) L B n;rw[T λz=>qr<|I q z]at g;$({q,eR,λz d=>?_,q::l,.go eR ((R o _).2 (by simp!)) g,iN.2 {λz=>qr<|I q z,n},λz=>?_})
   .rw[p.succ C d];let:=Q z;simp!
   let:=r z;let:=M z;grind
  let V7:w k=a->b∈rooms:=λe=>h5.resolve_right λz=>by let(j,H,ej):=at_ b z;let:=h.ww x hx k j f H (by simp?[e,<-ej];$ab);$(N {e,by rw[<-this,<-ej]})
  let F:∀z∈q::rooms,aO (ring' z) (w k) (w<|(k+1)%4)↔z=o:=λz d=>by rw[p.succ C d];let:=Q z;grind
  ext(U:w k=a)
  .let m:=V7 U;let(J,g,i,_):=wO (ring':=ring') (s:=b) (p0:=x) C.nd (λ_=>{U ▸ P m,(S b q _ m).2 (by simp!),(R x _).2 (by simp!)}) (λy c u s=>{(G y u _ c s).1,λ_=>(S y u _ c).2 (ι {c,s,by grind})}) L B n;let i:=i<|(r b).2 ⟨m,U ▸ (P m).mem.2⟩;$({o,eH _ A,F,J,g,i.nodup_iff.2<|iN.2 ⟨λz=>qr<|I q z,n⟩,λz=>?_});rw[i.mem_iff];let:=r z;let:=M z;grind
  ext(c2:w k=b)
  .let(J,g,i,_):=wO (ring':=ring') (s:=x) (p0:=a) C.nd (λ_=>{c2 ▸ ab,(S x q _ hx).2 (by simp!),(R a _).2 (by simp!)}) (λy c u s=>{(G y u _ c s).1,λ_=>(S y u _ c).2 (ι {c,s,by grind})}) L B n;let i:=i<|(r x).2 ⟨hx,c2 ▸ ab.mem.2⟩;$({o,eH _ A,F,J,g,i.nodup_iff.2<|iN.2 ⟨λz=>qr<|I q z,n⟩,λz=>?_});rw[i.mem_iff];let:=r z;let:=M z;grind
  let(J,g,_,T):=wO (ring':=ring') (s:=q) (p0:=q) C.nd (λz=>absurd z qr) (λy c u s=>{(G y u _ c s).1,λ_=>(S y u _ c).2 (ι {c,s,by simp!})}) L B n;rw[T λz=>qr<|I q z]at g;$({o,eH _ A,F,l,g,n,λz=>?_});let:=r z;let:=M z;grind
 refine{D,h.oW,ww,row,λy c=>?_,?_}
 .let up:∀k y,y∈reach rooms [w 0,w 1,w 2,w 3] ring k->y∈reach (q::rooms) [w 0,w 1,w 2,w 3] ring' k:=by
   ext k;induction k with
   |zero=>$(λy c=>c)
   |succ k ih =>
    ext y c;let c||c:=el.1 c
    .exact el.2<|ι c
    let(g,i):=gg.1 c;let(z,d,e):=ll.1 i;$(el.2<|τ<|gg.2 ⟨eH _ g,ll.2 ⟨z,(p.mem C<|eH _ g).2 (ι ⟨g,d⟩),decide_eq_true<|ih z<|of_decide_eq_true e⟩⟩)
  simp?[fq];let rfl||c:=dV.1 c
  .exact el.2<|τ<|gg.2 ⟨eR,ll.2 ⟨x,by rw[p.rq];$eR,decide_eq_true<|up _ x<|h.all x p.hx⟩⟩
  exact HM (C:=D) _ y<|up _ y<|h.all y c
 let f4:=Cc C h.oW h.ww λk f=>by let(y,c,e,_):=h.row k f;$(⟨y,c,e⟩)
 let V':=Cc D h.oW ww λk f=>by let(y,c,e,_):=row k f;$(⟨y,c,e⟩)
 let l1:=C.least O;let V:=D.least O;let d1:=C.half O;let d2:=D.half O;let eu:=h.zD;let t:=p.ties C;let s1:aB (λz=>(ring' z).countP (ai (q::rooms))) rooms=aB (λz=>(ring z).countP (ai rooms)) rooms+rooms.countP λz=>am (z=x)||am (z=a)||am (z=b):=by simp?[cZ λz d=>p.Oa C d,jg,ud]
 let s2:aB (λz=>(ring' z).countP λy=>!ai (q::rooms) y) rooms=aB (λz=>(ring z).countP λy=>!ai rooms y) rooms:=cZ λz d=>p.OZ C d;let u1:(ring' q).countP (ai (q::rooms))=1+(if a∈rooms then 1 else 0)+(if b∈rooms then 1 else 0):=by rw[p.rq];ext(W:a∈rooms)<;>ext(m:b∈rooms)<;>simp[ia,ai,p.hx,X.symm,Y.symm,Z.symm,W,m]
 let u2:((ring' q).countP λy=>!ai (q::rooms) y)=(if a∈rooms then 0 else 1)+(if b∈rooms then 0 else 1):=by rw[p.rq];ext(W:a∈rooms)<;>ext(m:b∈rooms)<;>simp[ia,ai,p.hx,X.symm,Y.symm,Z.symm,W,m]
 let ea:(if a∈rooms then 0 else 1)+(if a∈rooms then 1 else 0)=1:=by split<;>rfl
 let eb:(if b∈rooms then 0 else 1)+(if b∈rooms then 1 else 0)=1:=by split<;>rfl
 simp?[f4]at l1;rw[V']at V;change 3*_=((ring' q).countP (ai (q::rooms))+aB (λz=>(ring' z).countP (ai (q::rooms))) rooms)+2*(((ring' q).countP λy=>!ai (q::rooms) y)+aB (λz=>(ring' z).countP λy=>!ai (q::rooms) y) rooms)+4 at V;change 2*_=((ring' q).countP (ai (q::rooms))+aB (λz=>(ring' z).countP (ai (q::rooms))) rooms)at d2;show _=(((ring' q).countP λy=>!ai (q::rooms) y)+aB (λz=>(ring' z).countP λy=>!ai (q::rooms) y) rooms)+_+1;simp?[s1,u1,s2,u2,t]at V;simp?[s1,u1,t]at d2;simp?[s2,u2,fq];lia
end
section
def top(i:Nat):Stmt:=PySem.Challenge.pw_roomtouch_k52_read.main.body.getD i<|.Pass ⟨0,0,0,0⟩
local macro_rules | `(tactic| walk_at "sc")=>`(tactic| exact⟨rfl,rfl,rfl,by decide +kernel,rfl,by decide +kernel,by decide +kernel⟩)
abbrev zw:Stmt:=top 9
def EB:bq ["wall"] ["wall"] (aI zw):=by$("sc")
abbrev x6:Stmt:=top 10
def EO:bq ["thing"] ["thing"] (aI x6):=by$("sc")
abbrev wR:Stmt:=top 11
def B7:bq ["thing"] ["thing"] (aI wR):=by$("sc")
abbrev AZ:Stmt:=top 12
def FI:bq ["room","ring","names"] ["room","ring","names"] (aI AZ):=by$("sc")
abbrev xo:Stmt:=top 13
def Ek:bq ["web","rooms","names"] ["web"] (aI xo):=by$("sc")
abbrev yN:Stmt:=top 14
def BV:bq ["rings","room","name"] ["rings"] (aI yN):=by$("sc")
abbrev AU:Stmt:=top 15
def BC:bq ["rings","corners","room","ring","name","behind"] ["rings"] (aI AU):=by$("sc")
abbrev Bd:Stmt:=top 16
def DK:bq ["corner","corners","room","name","behind"] ["corner","corners"] (aI Bd):=by$("sc")
abbrev A5:Stmt:=top 17
def CC:bq ["rings","corners"] ["rings"] (aI A5):=by$("sc")
abbrev Au:Stmt:=top 18
def C2:bq ["rings","wall","first","row","name","ring"] ["rings","wall","first"] (aI Au):=by$("sc")
abbrev AJ:Stmt:=top 19
def Hj:bq ["rings","wall","corners","firsts","tied"] ["rings","wall"] (aI AJ):=by$("sc")
abbrev xH:Stmt:=top 20
def FL:bq ["ring","names"] ["ring","names"] (aI xH):=by$("sc")
abbrev xC:Stmt:=top 21
def Hs:bq ["rings","reached","turn"] ["rings"] (aI xC):=by$("sc")
abbrev xq:Stmt:=top 22
def FW:bq ["rings","ties","room","name"] ["rings"] (aI xq):=by$("sc")
abbrev yM:Stmt:=top 23
def Hd:bq ["rings","threes","corner"] ["rings"] (aI yM):=by$("sc")
abbrev AV:Stmt:=top 24
def Ci:bq ["web","rings"] ["web"] (aI AV):=by$("sc")
abbrev y6:Stmt:=top 25
theorem Dy:bq ["ring","at"] ["ring"] (aI y6):=by$("sc")
abbrev yu:Stmt:=top 26
theorem D8:bq ["web"] ["web"] (aI yu):=by$("sc")
abbrev Bq:Stmt:=top 29
def E9:bq ["thing"] ["thing"] (aI Bq):=by$("sc")
abbrev Aw:Stmt:=top 30
def HN:bq ["thing"] ["thing"] (aI Aw):=by$("sc")
abbrev Aa:Stmt:=top 31
def FC:bq ["row"] ["row"] (aI Aa):=by$("sc")
abbrev x8:Stmt:=top 32
def Eg:bq ["row","other"] ["row","other"] (aI x8):=by$("sc")
abbrev Bn:Stmt:=top 33
def Fs:bq ["row","other"] ["row","other"] (aI Bn):=by$("sc")
abbrev yL:Stmt:=top 34
def Fx:bq ["row","rows"] ["row","rows"] (aI yL):=by$("sc")
abbrev Aq:Stmt:=top 35
def Gf:bq ["rows","whole"] ["rows"] (aI Aq):=by$("sc")
abbrev A4:Stmt:=top 38
theorem Cg:bq ["web","lines","room","ring","names"] ["web"] (aI A4):=by$("sc")
abbrev wY:Stmt:=top 39
theorem C8:bq ["floor"] ["floor"] (aI wY):=by$("sc")
abbrev Bl:Stmt:=top 40
theorem D7:bq ["line","words"] ["line"] (aI Bl):=by$("sc")
abbrev zO:Stmt:=top 41
theorem En:bq ["text","web","shown"] ["text"] (aI zO):=by$("sc")
abbrev zo:Stmt:=top 42
theorem EJ:bq ["word"] ["word"] (aI zo):=by$("sc")
abbrev zS:Stmt:=top 43
theorem G9:bq ["line","words"] ["line"] (aI zS):=by$("sc")
abbrev Bo:Stmt:=top 44
theorem HS:bq ["text","rows"] ["text"] (aI Bo):=by$("sc")
abbrev xB:Stmt:=top 46
def F6:bq ["_law_cell","_law_number","_law_found","_law_k"] ["_law_cell"] (aI xB):=by$("sc")
abbrev zi:Stmt:=top 47
theorem CT:bq ["_law_purse_here","_law_many","_law_at","_law_found"] ["_law_purse_here","_law_many"] (aI zi):=by$("sc")
abbrev A9:Stmt:=top 48
def Ga:bq ["_law_purse_here","_law_letters","_law_first","_law_found","_law_k","_law_long","_law_tail","_law_name"] ["_law_purse_here"] (aI A9):=by$("sc")
abbrev yK:Stmt:=top 49
theorem Cj:bq ["_law_sides","_law_way","_law_at","_law_left","_law_bottom","_law_right","_law_top"] ["_law_sides","_law_way","_law_at"] (aI yK):=by$("sc")
abbrev ye:Stmt:=top 50
theorem Du:bq ["_law_sides","_law_purse_here","_law_left","_law_bottom","_law_right","_law_top","_law_x","_law_far","_law_y","_law_high","_law_amid"] ["_law_sides","_law_purse_here"] (aI ye):=by$("sc")
abbrev Ay:Stmt:=top 51
theorem BP:bq ["_law_purse_here","_law_most","_law_great","_law_rooms","_law_turn","_law_at","_law_left","_law_bottom","_law_right","_law_top","_law_way","_law_place"] ["_law_purse_here","_law_most"] (aI Ay):=by$("sc")
abbrev yW:Stmt:=top 52
theorem Dz:bq ["_law_purse_here","_law_most","_law_words","_law_found","_law_sides"] ["_law_purse_here","_law_most"] (aI yW):=by$("sc")
abbrev AI:Stmt:=top 53
theorem Df:bq ["_law_one","_law_other","_law_low"] ["_law_one","_law_other","_law_low"] (aI AI):=by$("sc")
abbrev zA:Stmt:=top 54
def Hw:bq ["_law_rows_here","_law_one","_law_way","_law_name","_law_left","_law_bottom","_law_right","_law_top","_law_some"] ["_law_rows_here","_law_one","_law_way"] (aI zA):=by$("sc")
abbrev xt:Stmt:=top 55
theorem Im:bq ["_law_rows_here","_law_one","_law_found","_law_way","_law_at"] ["_law_rows_here","_law_one"] (aI xt):=by$("sc")
abbrev xT:Stmt:=top 56
def FQ:bq ["_law_rows_here"] ["_law_rows_here"] (aI xT):=by$("sc")
abbrev Ba:Stmt:=top 57
theorem BL:bq ["_law_rows_here","_law_spots","_law_name","_law_left","_law_bottom","_law_right","_law_top"] ["_law_rows_here"] (aI Ba):=by$("sc")
abbrev Bj:Stmt:=top 58
theorem HD:bq ["_law_found"] ["_law_found"] (aI Bj):=by$("sc")
abbrev AK:Stmt:=top 59
theorem Dn:bq ["_law_found","_law_due"] ["_law_found","_law_due"] (aI AK):=by$("sc")
abbrev zL:Stmt:=top 60
theorem HQ:bq ["_law_names_here","_law_one","_law_other","_law_name","_law_at"] ["_law_names_here","_law_one","_law_other","_law_name"] (aI zL):=by$("sc")
abbrev zp:Stmt:=top 61
theorem FK:bq ["_law_web_here","_law_name","_law_purse_here","_law_room","_law_ring_here","_law_at","_law_a","_law_b","_law_found","_law_other","_law_names_here"] ["_law_web_here","_law_name","_law_purse_here"] (aI zp):=by$("sc")
abbrev yX:Stmt:=top 62
theorem CK:bq ["_law_purse_here","_law_rows_here","_law_web_here","_law_used","_law_name","_law_found","_law_room","_law_ring_here","_law_at"] ["_law_purse_here"] (aI yX):=by$("sc")
abbrev AM:Stmt:=top 63
theorem Ho:bq ["_law_names_here","_law_at"] ["_law_names_here"] (aI AM):=by$("sc")
abbrev yC:Stmt:=top 64
theorem D9:bq ["_law_web_here"] ["_law_web_here"] (aI yC):=by$("sc")
abbrev xQ:Stmt:=top 65
theorem EW:bq ["_law_rows_here"] ["_law_rows_here"] (aI xQ):=by$("sc")
abbrev fX:Stmt:=top 66
def gq:bq ["_law_script","_law_cell","_law_purse_here","_law_web_here","_law_due","_law_text","_law_found","_law_room","_law_names_here","_law_rows_here","_law_other","_law_told","_law_great"] ["_law_script"] (aI fX):=by$("sc")
structure Txt (mg:ew->Option bt):Prop where
 len:mg "len"=al
 int:mg "int"=al
 V6:mg "isinstance"=al
 qH:mg "range"=al
 min:mg "min"=al
 max:mg "max"=al
 all:mg "all"=al
 dict:mg "dict"=al
 sorted:mg "sorted"=al
 tuple:mg "tuple"=al
 list:mg "list"=al
 str:mg "str"=al
 bool:mg "bool"=al
end
section
variable{P:hE}{w:iR}{A:nL}{E:bt->dq->Prop}{s:dq}{X:Cx}{pos:q7}{e:fA}
theorem UD {Q:bt->dq->Prop}{Fin:k7->Prop}(O:s.heap.IsList l items)(S:∀(led:Bool) (R:aen->dq->Prop) (I:cA) (f:k7),f=((s.heap.push {cls:=.type "set",dict:=al,data:=.set #[] 0 (.fresh 0 0 led)}).push {cls:=.type "list_iterator",data:=.fields #[.ref l,.int 0 0]})->l≠I->s.heap.objs.size∉[I,l]->f.get? s.heap.objs.size=ac {cls:=.type "set",dict:=al,data:=.set #[] 0 (.fresh 0 0 led)}->f.IsList l items->(∃o,f.get? I=ac o/\o.cls=.type "list_iterator"/\o.data=.fields #[.ref l,.int 0 0]) ->
   (∀s',Moved [s.heap.objs.size,I] (λa b=>b=a) {s with heap:=f} s'->Fin s'.heap->R (.ok<|.ret .none) s')->abo (hJ P w) A.in1.in1 (.builtin "set.update.loop" {[.ref s.heap.objs.size,.ref I],[]}) R {s with heap:=f})(h:∀(h':k7) (tk:Nat),Fin h'->(∀b o,b<s.heap.objs.size->s.heap.get? b=ac o->h'.get? b=ac o)->Q (.ref s.heap.objs.size) {s with heap:=h',toks:=tk}) :
  gW (hJ P w) A (call (.type "set") [.ref l]) Q E s:=by
 let(c,tl,hmro):=zb.mro;let hmade:=PySem.F.called_set.made;let hsub:=zb.sub;$(wpAny_call<|codeAny_of_tree ?_);$(fj {Code.quiet_builtin _ (by decide +kernel),aa7 PySem.F.entry_type_call ?_});rw[Around.under_plain (weight_type_call_type "set" [.ref l] []) ρ];let h2:=zb.canCreate;let hct:=PySem.F.typeCall_set_1<|.ref l
 repeat (any_goals (first|assumption|wp_step))
 $(abR (code_set_new_1 (.ref l) (E:=E) (Q₁:=λobj g=>∃led:Bool,obj=.ref s.heap.objs.size/\g={s with heap:=s.heap.push {cls:=.type "set",dict:=al,data:=.set #[] 0 (.fresh 0 0 led)} }) λled=>⟨led,ρ,ρ⟩) λr g x=>?_);cases r with
 |error e=>$x
 |ok T =>
  cases T with
  |ret obj =>
   let(led,rfl,rfl):=x;let D:(s.heap.push {cls:=.type "set",dict:=al,data:=.set #[] 0 (.fresh 0 0 led)}).get? s.heap.objs.size=ac {cls:=.type "set",dict:=al,data:=.set #[] 0 (.fresh 0 0 led)}:=g8 _ ρ;let U:Shared.TypeIs {s with heap:=s.heap.push {cls:=.type "set",dict:=al,data:=.set #[] 0 (.fresh 0 0 led)} } (.ref s.heap.objs.size) "set":={_,D,ρ};let hli:=zb.init.lookup;let hbi:=zb.init.bind<|.ref s.heap.objs.size
   repeat (any_goals (first|assumption|wp_step))
   $(abR (codeAny_call_builtin (R:=wants (λr i=>r=.none/\∃h' tk,i={s with heap:=h',toks:=tk} /\
     Fin h' /\
     (∀b o,b<s.heap.objs.size->s.heap.get? b=ac o->h'.get? b=ac o)) E) zb.init.plain PySem.F.entry_set_init<|check_set_init_1 U ?_) λy i d=>?_)
   .let(V,q,t,nl,u):=O;let(ocls,m,odata,j):=V;simp? at t u;$$t;$$u;let z:(s.heap.push {cls:=.type "set",dict:=al,data:=.set #[] 0 (.fresh 0 0 led)}).get? l=ac {cls:=.type "list",dict:=m,data:=.seq items nl,slots:=j}:=eJ _ q;let hsls:=PySem.F.sub_list_set;let hslf:=PySem.F.sub_list_frozenset;let hne:(adW "list" == adW "dict")=bi:=⋯
    let v:(s.heap.push {cls:=.type "set",dict:=al,data:=.set #[] 0 (.fresh 0 0 led)}).IsList l items:={_,z,ρ,nl,ρ};unfold aaZ.«set.__init__» noKeywords aeP;generalize G:ae5=PI
    wp_walk
    $$G;$(xr v<|cn<|wpAny_runValue ?_);let H:l<s.heap.objs.size:=e7 q;let B:l≠(s.heap.push {cls:=.type "set",dict:=al,data:=.set #[] 0 (.fresh 0 0 led)}).objs.size:=by rw[aa1];$(gk<|aaB H)
    let J:s.heap.objs.size∉[(s.heap.push {cls:=.type "set",dict:=al,data:=.set #[] 0 (.fresh 0 0 led)}).objs.size,l]:=by simp! [aby]
    let C:((s.heap.push {cls:=.type "set",dict:=al,data:=.set #[] 0 (.fresh 0 0 led)}).push {cls:=.type "list_iterator",data:=.fields #[.ref l,.int 0 0]}).get? s.heap.objs.size=ac {cls:=.type "set",dict:=al,data:=.set #[] 0 (.fresh 0 0 led)}:=eJ _ D;$(S led _ _ _ ρ B J C (v.push _) {_,g8 _ ρ,ρ,ρ} ?W);ext s' n k;let(h',g',d',K,L):=s';let Y:g'=s.gens:=n.gens;let Z:d'=s.drawn:=n.drawn;let eo:L=s.os:=n.os;$$Y;$$Z;$$eo;show gW _ _ _ _ _ _;$(fj ?_);show gW _ _ (ret Value.none) _ _ _;$(fj {ρ,h',K,ρ,k,λb o M e=>?_});let hb1:b≠s.heap.objs.size:=gk M;let hb2:b≠(s.heap.push {cls:=.type "set",dict:=al,data:=.set #[] 0 (.fresh 0 0 led)}).objs.size:=by rw[aa1];$(gk<|aaB M)
    $(n.heap b o ?_<|eJ _<|eJ _ e);simp!
   cases y with
   |error e=>$d
   |ok p =>
    cases p with
    |ret r =>
     let(rfl,h',tk,rfl,k,N):=d
     repeat (any_goals (first|assumption|wp_step))
     $(h _ _ k N)
    |_=>$d.elim
  |_=>$x.elim
theorem Nj(bs:List Bool):((lb bs.length).any λi=>(bs[i]?).getD false)=bs.any id:=by
 induction bs with
 |nil=>rfl
 |cons b r a=>simp?[fq,adv,ady,W0,<-a];rfl
def Od(g:X.calm=bd):bP X (.builtin "any") (λxs H Q=>∃(p:cA) (bs:List Bool),xs=[.ref p]/\Rd H p (.L<|bs.map V.bl)/\Q (.bl<|bs.any id) H):=by
 ext pins s σ H xs us Q I r h;let(p,bs,rfl,rd,q):=h;let(u,rfl,j):=r.one;$$j;let(z,its,n,k,e):=rd.ok I.aj;let c:=AD k;$$c;let d:s.heap.IsList p (bs.map uy).toArray:={_,e,ρ,n,ρ};let l:p<s.heap.objs.size:=e7 e;$(call_any_walk (xr d ⟨s.heap.objs.size,[s.heap.objs.size,p],[s.heap.objs.size],(bs.map uy).toArray.size,_,_,λi=>(bs[i]?).getD false,ρ,
  Walks.list (A:=X.A.in1) (I.ok.hd g) _ p (gk l) (bs.map uy).toArray,{{_,g8 _ ρ,ρ,ρ},d.push _},λi v s' Q' E' a f=>?_,λh' tk m=>?_⟩))
 .let a:(bs.map uy)[i]?=ac v:=by$$$$a
  rw[ee]at a;let(b,c,a):=oM a;$$$$$$a;simp[c]at f;$(z9 f)
 let o:(lb (bs.map uy).toArray.size).any (λi=>(bs[i]?).getD false)=bs.any id:=by simp[Nj]
 rw[o];$({.bl _,H,?_,ρ,q});$(I.kept λb x ex=>m b x (λt=>by rw[ka.1 t]at ex;$(p5 _<|e7 ex))<|eJ _ ex)
theorem ints_get:∀{ns:List Int}{its:List bt}{i:Nat}{v:bt},aH (ns.map V.int) its->its[i]?=ac v->∃t,v=.int ((ns[i]?).getD 0) t
 |[],_,i,v,h,e=>by$$$h;simp at e
 | n::ns,_,0,v,h,e=>by
  cases h with
  |cons r t=>let(tk,rfl):=r;simp at e;$(⟨tk,e.symm⟩)
 | n::ns,_,i+1,v,h,e=>by
  cases h with
  |cons r t=>let:=ints_get (i:=i) (v:=v) t (by$$$$e);$$$$this
theorem uk:∀{ns:List ew}{its:List bt}{i:Nat}{v:bt},aH (ns.map V.str) its->its[i]?=ac v->∃t,v=.str ((ns[i]?).getD ow) t
 |[],_,i,v,h,e=>by$$$h;simp at e
 | n::ns,_,0,v,h,e=>by
  cases h with
  |cons r t=>let(tk,rfl):=r;simp at e;$(⟨tk,e.symm⟩)
 | n::ns,_,i+1,v,h,e=>by
  cases h with
  |cons r t=>let:=uk (i:=i) (v:=v) t (by$$$$e);$$$$this
theorem Dk(ns:List Int):∀k,k<=ns.length->preSum (λi=>(ns[i]?).getD 0) k=(ns.take k).sum
 |0,_=>by simp[preSum]
 | k+1,h=>by
  show preSum _ k+_=_;simp?[Dk ns k ∅,ac0,abz]
  congr 1;let:k<ns.length:=∅
  simp[b8 this]
def VQ(k:X.calm=bd):bP X (.builtin "sum") (λxs H Q=>∃(p:cA) (ns:List Int),xs=[.ref p]/\Rd H p (.L<|ns.map V.int)/\Q (.int ns.sum) H):=by
 ext pins s σ H xs us Q I r h;let(p,ns,rfl,rd,q):=h;let(u,rfl,l):=r.one;$$l;let(z,its,n,c,e):=rd.ok I.aj;let d:s.heap.IsList p its.toArray:={_,e,ρ,n,ρ};let f:=e7 e;let g:its.length=ns.length:=by let:=c.length;$$$$this.symm
 $(call_sum_walkAnyS (xr d ⟨s.heap.objs.size,[s.heap.objs.size,p],[s.heap.objs.size],_,its.toArray.size,_,_,λi=>(ns[i]?).getD 0,ρ,
  (Walks.list (A:=X.A.in1) (I.ok.hd k) _ p (gk f) its.toArray).toS,{{_,g8 _ ρ,ρ,ρ},d.push _},λb j=>?_,λi v m=>ints_get c (by$$$$m),λs' t' a=>?_⟩))
 .rw[aa1];simp at j;let rfl||rfl:=j
  .$(abk _)
  $(aaB f)
 simp?[show its.toArray.size=ns.length from by$$$$g,Dk ns _<|eS _,ri];let(o,h2,h3,h4,h5):=a;let t:s'={s with heap:=s'.heap,toks:=s'.toks}:=by
  $$$s';simp!
 rw[t];$({.int _,H,?_,{_,ρ},q});$(I.kept λb x ex=>o b x (λa=>by rw[ka.1 a]at ex;$(p5 _<|e7 ex))<|eJ _ ex)
def fP(ns:List Int):Int:=(ns[ace (λi j=>am<|(ns[i]?).getD 0>(ns[j]?).getD 0) (ns.length-1)]?).getD 0
def dn(ns:List ew):Str:=(ns[ace (λi j=>am<|((ns[i]?).getD ow).cps.toList<((ns[j]?).getD ow).cps.toList) (ns.length-1)]?).getD ow
def F0{its:List bt}{s:dq}{p:cA}(c:p<s.heap.objs.size){o:ua}:∀b∈[s.heap.objs.size,p],b<(s.heap.push o).objs.size:=λb a=>by
 rw[aa1];simp at a;let rfl||rfl:=a
 .$(abk _)
 $(aaB c)
def KJ(k:X.calm=bd):bP X (.builtin "max") (λxs H Q=>∃(p:cA) (ns:List Int),xs=[.ref p]/\Rd H p (.L<|ns.map V.int)/\ns≠[]/\Q (.int<|fP ns) H):=by
 ext pins s σ H xs us Q I r h;let(p,ns,rfl,rd,d,q):=h;let(u,rfl,l):=r.one;$$l;let(z,its,n,a,e):=rd.ok I.aj;let f:s.heap.IsList p its.toArray:={_,e,ρ,n,ρ};let g:=e7 e;let j:its.length=ns.length:=by let:=a.length;$$$$this.symm
 let h0:0<ns.length:=ir.2 d;$(call_max_walk (xr f ⟨s.heap.objs.size,[s.heap.objs.size,p],[s.heap.objs.size],its.toArray.size,_,_,_,ρ,
  Walks.list (A:=X.A.in1) (I.ok.hd k) _ p (gk g) its.toArray,{{_,g8 _ ρ,ρ,ρ},f.push _},F0 (its:=its) g,by rw[fv];lia,CmpOf.ints_gt (λi=>(ns[i]?).getD 0) (λi v c=>ints_get a (by$$$$c)),λv h' tk c m=>?_⟩))
 let(t,rfl):=ints_get a (show its[_]?=ac v by$$$$c);$({.int<|fP ns,H,?_,⟨t,?_⟩,q})
 .$(I.kept λb x ex=>m b x (λo=>by rw[ka.1 o]at ex;$(p5 _<|e7 ex))<|eJ _ ex)
 rw[j];rfl
theorem TN{P:hE}{w:iR}{A:nL}{R:Nat->bt->Prop}(val:Nat->ew)(a:∀i v,R i v->∃t,v=.str (val i) t):CmpOf P w A .Lt R (λi j=>am<|(val i).cps.toList<(val j).cps.toList):=λi j b c s Q E hi d h=>by let(t,rfl):=a i b hi;let(u,rfl):=a j c d;$(lt_str h)
theorem TB(k:X.calm=bd):bP X (.builtin "min") (λxs H Q=>∃(p:cA) (ns:List ew),xs=[.ref p]/\Rd H p (.L<|ns.map V.str)/\ns≠[]/\Q (.str<|dn ns) H):=by
 ext pins s σ H xs us Q I r h;let(p,ns,rfl,rd,d,q):=h;let(u,rfl,l):=r.one;$$l;let(z,its,n,c,e):=rd.ok I.aj;let f:s.heap.IsList p its.toArray:={_,e,ρ,n,ρ};let g:p<s.heap.objs.size:=e7 e;let j:its.length=ns.length:=by let:=c.length;$$$$this.symm
 let h0:0<ns.length:=ir.2 d;$(call_min_walk (xr f ⟨s.heap.objs.size,[s.heap.objs.size,p],[s.heap.objs.size],its.toArray.size,_,_,_,ρ,
  Walks.list (A:=X.A.in1) (I.ok.hd k) _ p (gk g) its.toArray,{{_,g8 _ ρ,ρ,ρ},f.push _},F0 (its:=its) g,by rw[fv];lia,TN (λi=>(ns[i]?).getD ow) (λi v a=>uk c (by$$$$a)),λv h' tk a m=>?_⟩))
 rw[List.getElem?_toArray]at a;let(t,rfl):=uk c a;$({.str<|dn ns,H,?_,⟨t,?_⟩,q})
 .$(I.kept (t':=tk) λb x ex=>m b x (λo=>by rw[ka.1 o]at ex;$(p5 _<|e7 ex))<|eJ _ ex)
 rw[fv,j];rfl
def kJ:List Dat->Option (List Int)
 |[]=>ac []
 |.int x::r=>(kJ r).map (x::·)
 |_::_=>al
theorem A8{K:e6}{H:Hp}:∀{ds:List Dat}{vs:List V}{ys:List Int},kJ ds=ac ys->aw K H ds vs->vs=ys.map V.int
 |[],_,_,e,r=>by$$$$$$e;$r
 | d::ds,_,_,e,a=>by
  let(v,vr,b,c,rs):=a;cases d with
  |int x=>let(ys',f,e):=oM e;$$$$$$e;simp?[b,A8 f rs];$$c;rfl
  |_=>$(nO e)
def qU:List Dat->Option Res
 |[.L ds]=>(jv ds).map λbs=>.D (.bl<|bs.any id)
 |_=>al
def tE:List Dat->Option Res
 |[.L ds]=>(kJ ds).map λns=>.D (.int ns.sum)
 |_=>al
def vw:List Dat->Option Res
 |[.L ds]=>(kJ ds).bind λns=>if ns=[]then al else ac (.D<|.int<|fP ns)
 |_=>al
def mN:List Dat->Option Res
 |[.L ds]=>(d7 ds).bind λns=>if ns=[]then al else ac (.D<|.str<|dn ns)
 |_=>al
theorem Lu:CD X (λxs H Q=>∃(p:cA) (ns:List ew),xs=[.ref p]/\Rd H p (.L<|ns.map V.str)/\ns≠[]/\Q (.str<|dn ns) H) mN:=by
 ext H0 ps Z σ H c vs ds o Q e S r k;unfold mN at e;$$$$$e
 .ext1 ds';let(ns,d,e):=oA e;let e:(if ns=[]then al else ac (Res.D<|.str<|dn ns))=ac o:=e;$$$$$e
  .$(nO e)
  ext1 b;$$$$$$e;let(v,vr,rfl,(a,ws,rfl,rd,rs),f):=r;$$f;rw[lO d rs]at rd;$({a,ns,ρ,Rd.mono S.sub rd,b,k _ H c S (af.refl _) ρ})
 $(nO e)
def Qn (a:X.calm=bd)(b:Gl X "any")(c:X.mg "any"=al)(d:bI X e [])(f:DA X [e] fa):DE X (.Call (.Name "any" p) [e] [] pos) (cE qU fa):=iE (Od a) (by
  ext H0 ps Z σ H b vs ds o Q e S r k;delta qU at e;$$$$$e
  .let(bs,c,e):=oM e;$$$$$$e;let(v,vr,rfl,(a,ws,rfl,rd,rs),d):=r;$$d;rw[Bi c rs]at rd;$({a,bs,ρ,Rd.mono S.sub rd,k _ H b S (af.refl _) ρ})
  $(nO e)) b c (by decide +kernel) f ⋯ ρ d ρ
def Mk (a:X.calm=bd)(b:Gl X "sum")(c:X.mg "sum"=al)(d:bI X e [])(f:DA X [e] fa):DE X (.Call (.Name "sum" p) [e] [] pos) (cE tE fa):=iE (VQ a) (by
  ext H0 ps Z σ H b vs ds o Q e S r k;unfold tE at e;$$$$$e
  .ext1 ds';let(ns,c,e):=oM e;$$$$$$e;let(v,vr,rfl,(a,ws,rfl,rd,rs),d):=r;$$d;rw[A8 c rs]at rd;$({a,ns,ρ,Rd.mono S.sub rd,k _ H b S (af.refl _) ρ})
  $(nO e)) b c (by decide +kernel) f ⋯ ⋯ d ρ
def Q6 (a:X.calm=bd)(b:Gl X "max")(c:X.mg "max"=al)(d:bI X e [])(f:DA X [e] fa):DE X (.Call (.Name "max" p) [e] [] pos) (cE vw fa):=iE (KJ a) (by
  ext H0 ps Z σ H c vs ds o Q e S r k;delta vw at e;$$$$$e
  .let(ns,d,e):=oA e;let e:=e;$$$$$e
   .$(nO e)
   ext1 b;$$$$$$e;let(v,vr,rfl,(a,ws,rfl,rd,rs),f):=r;$$f;rw[A8 d rs]at rd;$({a,ns,ρ,Rd.mono S.sub rd,b,k _ H c S (af.refl _) ρ})
  $(nO e)) b c (by decide +kernel) f ⋯ ρ d ρ
theorem PN{fa:AF}{p:q7}(a:X.calm=bd)(b:Gl X "min")(c:X.mg "min"=al)(d:bI X e [])(f:DA X [e] fa):DE X (.Call (.Name "min" p) [e] [] pos) (cE mN fa):=iE (TB a) Lu b c (by decide +kernel) f ⋯ ⋯ d ρ
def ltI(fs:List Int)(i j:Nat):Bool:=am<|fs.getD i 0<fs.getD j 0
def Pl (nd:fs.Nodup):Ord (ltI fs) fs.length where
 trans:=λi j k c a=>decide_eq_true<|adL (of_decide_eq_true c)<|of_decide_eq_true a
 total:=λi j hi d b=>by
  delta ltI;rw[gP hi,gP d];ext(h:fs[i]<fs[j])
  .$(ι<|decide_eq_true h)
  $(τ (decide_eq_true ?_));ext(a:fs[j]<fs[i])
  .$a
  let e:fs[i]=fs[j]:=by lia
  $(absurd ((He nd).1 e) b)
 fB:=λi=>decide_eq_false<|Int.lt_irrefl _
def nV(K:e6)(H:Hp)(vs:List V)(fs:List Int):Prop:=vs.length=fs.length/\∀(i:Nat) (f:Int),fs[i]?=ac f->∃a b,vs[i]?=ac (.ref a)/\bj K H a b/\b[0]?=ac (.int f)
def Ln(fs:List Int)(vs out:List V):Prop:=∃q:Array Nat,dj q vs.length/\fx (ltI fs) q vs.length/\out=q.toList.map λi=>vs.getD i .aP
def B3(K:e6):List V->Hp->VK->Prop:=λxs H Q=>∃p vs fs,xs=[.ref p]/\Rd H p (.L vs)/\nV K H vs fs/\fs.Nodup/\vs.length<64/\∀out,Ln fs vs out->∀l,H l=al->Q (.ref l) (upd H l<|.L out)
theorem Ai (I:Inv X j q H s):∀{fs:List Int}{vs:List V}{its:List bt},nV X.K H vs fs->aH vs its ->
  ∃c:List bt,ab2 s.heap its c/\c.length=fs.length/\(∀v∈c,∃x t,v=abh x t)/\∀(i:Nat) (f:Int),fs[i]?=ac f->∃a o xs n t,its[i]?=ac (.ref a)/\s.heap.get? a=ac o/\o.data=.seq xs n/\xs[0]?=ac (abh f t)
 | [],[],_,h,r=>by
  $$$r;$({[],.nil,ρ,λv k=>by simp at k,λi f e=>by simp at e})
 |[],_::_,_,h,_=>by simp[nV]at h
 |_::_,[],_,h,_=>by simp[nV]at h
 | f::fs,v::vs,_,h,r=>by
  cases r with
  |cons y rs =>
   let(a,ws,B,C,D):=h.2 0 f ρ;$$$$$$B;$$y;let h':nV X.K H vs fs:=⟨by$$$$(h.1),λi g e=>by
    let(b,F,l,m,G):=h.2 (i+1) g<|e
    $({b,F,by$$$$l,m,G})⟩
   let(c,J,L,M,N):=Ai I h' rs;let(its,O,(o,p,Q,n,hd),_):=I.tuple C;let(u,R,S):=O.get D;let(t,rfl):=S;let d:its.toArray[0]?=ac (abh f t):=by$$$$R
   $({abh f t::c,.cons p Q hd d J,by simp[L],λv k=>?_,λi g e=>?_})
   .let z||z:=dV.1 k
    .$(⟨f,t,z⟩)
    $(M v z)
   cases i with
   |zero=>simp at e;$$e;$({a,o,_,n,t,ρ,p,hd,d})
   |succ i=>let(b,T,xs,U,t',l,m):=N i g<|e;$({b,T,xs,U,t',by$$$$l,m})
theorem O5(F:X.ex=[]):bP X (.builtin "sorted") (B3 X.K):=by
 ext pins s σ H xs us Q I r h;let(p,vs,fs,rfl,rd,c,nd,G,q):=h;let(u,rfl,R):=r.one;$$R;$(BY F (T:=.type "int") I rd G (by rw[c.1];$(Pl nd)) ⋯ (λits B=>?_) (λits B i j hi D J h' n C hC=>?_) q)
 .let(S,U,V,Y,_):=Ai I c B;$({S,U,by rw[V];$(c.1.symm),λv Z h=>?_});let(x,t,rfl):=Y v Z;$(ad8 ρ)
 let(_,_,_,_,y):=Ai I c B;rw[c.1]at hi D;let(a,o,xs,n1,t1,a1,a2,L,d):=y i _<|b8 hi;let(b,o',ys,n2,t2,b1,b2,M,f):=y j _<|b8 D;let ea:its.getD i Value.none=.ref a:=by rw[kq,a1];rfl
 let eb:its.getD j Value.none=.ref b:=by rw[kq,b1];rfl
 rw[ea,eb];apply W.kat_lt (n _ _ _ _ L a2) L (n _ _ _ _ M b2) M;obtain⟨g,k,ex⟩:∃g k,xs.toList=g::k:=by
  cases hx:xs.toList with
  |nil=>rw[<-lp,hx]at d;$(nO d)
  |cons g k=>$(⟨g,k,ρ⟩)
 obtain⟨l,m,N⟩:∃l m,ys.toList=l::m:=by
  cases hy:ys.toList with
  |nil=>rw[<-lp,hy]at f;$(nO f)
  |cons l m=>$(⟨l,m,ρ⟩)
 rw[<-lp,ex]at d;rw[<-lp,N]at f;$$$$$$d;$$$$$$f;simp?[ex,N];let O:fs[i]≠fs[j]:=λz=>J<|(He nd).1 z;$(W.kat_cons<|afw ?_);simp[beq_eq_false_iff_ne.2 O];$(W.kat_no<|oneLt_int ?_);let:ltI fs i j=am (fs[i]<fs[j]):=by$$(ltI);rw[gP hi,gP D]
 simp!
def oV:Dat->Option Int
 |.U (.int x::_)=>ac x
 |_=>al
def firstsI:List Dat->Option (List Int)
 |[]=>ac []
 |d::r=>(oV d).bind λx=>(firstsI r).map (x::·)
def iC(d:Dat):Int:=(oV d).getD 0
def fH(a b:Dat):Bool:=am<|iC a<=iC b
def vT(ds:List Dat):List Dat:=ds.mergeSort fH
theorem EZ:∀{ds:List Dat}{fs:List Int},firstsI ds=ac fs->fs=ds.map iC/\∀d∈ds,∃x,oV d=ac x
 |[],_,e=>by$$$$$$e;$({ρ,λd h=>by simp at h})
 |d::r,_,e=>by let(x,e1,e):=oA e;let(ys,a,e):=oM e;$$$$$$e;let(h1,h2):=EZ a;simp![iC]
theorem FA{K:e6}{H b:Hp}(s:af b H):∀{ds:List Dat}{vs:List V}{fs:List Int},firstsI ds=ac fs->aw K b ds vs->nV K H vs fs
 |[],_,_,e,r=>by$$$$$$e;rw[show _=[]from r];$({ρ,λi f e=>by simp at e})
 | d::ds,_,_,e,c=>by
  let(v,vr,j,k,rs):=c;let e:=e;let(x,a,e):=oA e;let(ys,l,e):=oM e;$$$$$$e;let(m,h2):=FA s l rs;simp[j];$({by simp[m],λi f g=>?_});cases i with
  |zero =>
   simp at g;$$g;delta oV at a;$$$$$a
   .$$$$$$a;let(p,n,rfl,o,w1,wr,q,h,_):=k;$$h;$({p,n,ρ,bj.mono s o,by rw[q];rfl})
   $(nO a)
  |succ i=>simp!
def KG (nd:(ds.map iC).Nodup)(P:dj q ds.length)(U:fx (ltI<|ds.map iC) q ds.length):(q.toList.map λi=>ds.getD i .aP)=vT ds:=by
 let pm:(q.toList.map λi=>ds.getD i .aP).Perm ds:=by let:=P.pm.map<|λi=>ds.getD i .aP;rwa[CF]at this
 let l:∀i,i<ds.length->iC (ds.getD i .aP)=(ds.map iC).getD i 0:=λi hi=>by rw[gP hi,gP (by$$$$hi)];simp
 let f:(q.toList.map λi=>ds.getD i .aP).Pairwise (λa b=>fH a b=bd/\a∈ds/\b∈ds):=by
  rw[nr];ext i j hi c m;let n:i<ds.length:=by rw[<-P.size];$$$$hi
  let d:j<ds.length:=by rw[<-P.size];$$$$c
  $({?_,pm.mem_iff.1<|G' _,pm.mem_iff.1<|G' _});let u:=U i j m d;let p:q.toList[i]'(by$$$$hi)=q.getD i 0:=by simp?[pq,nq (by$$$$hi)];simp
  let r:q.toList[j]'(by$$$$c)=q.getD j 0:=by simp?[pq,nq (by$$$$c)];simp
  simp?[aaH,p,r];$$(fH);simp?[l _ (P.lt i n),l _<|P.lt j d];unfold ltI at u;$(decide_eq_true<|Int.le_of_lt<|of_decide_eq_true u)
 let g:(vT ds).Pairwise (λa b=>fH a b=bd/\a∈ds/\b∈ds):=by
  $(aac (λt v o=>{o,?_,?_}) (uz (le:=fH) (λa b c h1 h2=>by
    delta fH at *;simp at *
    lia) (λa b=>by
      delta fH
      lia) ds))
  .$((gj ds fH).mem_iff.1 t)
  $((gj ds fH).mem_iff.1 v)
 $(wu (λa b k x=>?_) (pm.trans (gj ds fH).symm) f g);let e:=ae1 (of_decide_eq_true k.1)<|of_decide_eq_true x.1;let(i,hi,y):=nS k.2.1;let(j,c,z):=nS k.2.2;let B:(ds.map iC)[i]'(by$$$$hi)=(ds.map iC)[j]'(by$$$$c):=by simp[y,z,e]
 let e3:=(He nd).1 B;simp!
def qJ:List Dat->Option Res
 |[.L ds]=>(firstsI ds).bind λfs=>if fs.Nodup/\ds.length<64 then ac (.O<|.L<|vT ds)else al
 |_=>al
def T6 (a:X.ex=[])(b:Gl X "sorted")(c:X.mg "sorted"=al)(d:bI X e [])(f:DA X [e] fa):DE X (.Call (.Name "sorted" p) [e] [] pos) (cE qJ fa) :=
 iE (O5 a) (by
   ext H0 ps Z σ H j vs ds o Q a S r k;delta qJ at a;$$$$$a
   .let(fs,f,a):=oA a;$$$$$a
    .ext1 d;$$$$$$a;let(v,vr,rfl,(p,m,rfl,rd,rs),n):=r;$$n;let b:=rs.length;$({p,m,fs,ρ,Rd.mono S.sub rd,FA S.sub f rs,d.1,by rw[b];$(d.2),λout h l c=>?_});let(q,P,U,t):=h;let(g,_):=EZ f;$$g;simp[b]at P U;let u:=KG d.1 P U;$$t;let h:=aw.pick rs q.toList (λi hi=>by rw[b];$(zT P i hi));rw[u]at h;$(k (.ref l) _ j (S.made c) (af.refl _) {l,ρ,{_,bw,h,S.dP c},(S.bU c).2,(S.bU c).1,S.eM c})
    $(nO a)
   $(nO a)) b c (by decide +kernel) f ⋯ rfl d rfl
end
def lT(d:Dat)(ds:List Dat):Nat:=(cR ds).countP λy=>qe y<|toPy d
def Co(K:e6):V->List V->Hp->VK->Prop:=λx vs H Q=>∃a ds d y p b,x=.ref p/\vs=[y]/\af a H/\Rd H p (.L b)/\aw K a ds b/\Rep K a d y/\bL (.L ds)=bd/\bL d=bd/\Q (.int (lT d ds:Nat)) H
section
variable{X:Cx}
theorem Po(i:X.A.units+65<r0):mU X "list.count" (Co X.K):=by
 ext pins s σ H x vs v us Q I rx j h;let(Hi,ds,d,y,p,ws,rfl,rfl,sm,rd,rs,k,b,a,q):=h;$$rx;let(u,rfl,l):=j.one;let(z,its,n,c,e):=rd.ok I.aj;let b:=hG.1 b;let a:=hG.1 a;let(as,f):=qC I sm (show jA ds=bd from b.1) rs c;let(bs,m):=jd I sm a.1 k l;let g:aat (cR ds)=bd:=k5 b.2;let o:(toPy d).canLay0=bd:=k5 a.2;let r:=adX _ _ _ g f;let t:its.toArray.toList.countP (λw=>qe (aaj s.heap w)<|toPy d)=lT d ds:=by$$(lT);simp?[<-r,nA];rfl
 $(HT adP {_,e,ρ} F.entry_list_count (F.args_list_count_2 _ _)
  (SeqAt.list_countAt p its.toArray n al #[] u (λw=>qe (aaj s.heap w)<|toPy d)) {e,aem (by$$$$f) m g o<|aaL a.2 i,?_})
 rw[t];$({.int (lT d ds:Nat),H,I.tok _,{_,ρ},q})
def sC(f:DF)(fa:AF):DF:=λZ=>(f Z).bind λp=>(fa p.2).bind λq=>match p.1,q.1 with
 |.L ds,[d]=>if bL (.L ds)&&bL d then ac (.int (lT d ds:Nat),q.2)else al
 |_,_=>al
theorem MZ{o e:fA}{pos g:q7}{f:DF}{fa:AF}(z:DD X o f)(A:DA X [e] fa)
 (B:∀{to:TE}{t:TA},PE X o to->PA X [e] t->PE X (.Call (.Attribute o "count" g) [e] [] pos) (rh X.K "list" (Co X.K) to t)):DD X (.Call (.Attribute o "count" g) [e] [] pos) (sC f fa):=by
 let(to,C,D):=z;let(t,p,q):=A;$({_,B C p,λn ps Z r H E d Z' Q b S k=>?_});unfold sC at b;let(c,Z1,F,b):=oB b;cases j:fa Z1 with
 |none=>rw[j]at b;$(nO b)
 |some ap =>
  let(as,Z2):=ap;rw[j]at b;dsimp[gD]at b;$$$$$b
  .ext1 ds x;$$$$$b
   .ext1 h;let h:=hG.1 h;let(rfl,rfl):=sP b;$(D n ps Z r H E _ Z1 _ F S λv G s u I J=>?_);let(a,w,rfl,rd,rs):=J;$({ι {ρ,w,ι<|Rd.mono u.sub rd},q n ps Z1 r G s _ _ _ j u λvs L i l m M=>?_});let(y,yr,rfl,N,O):=M;$$O;$({i,ds,x,y,a,w,ρ,ρ,l.sub,Rd.mono l.sub<|Rd.mono m rd,aw.mono m rs,N,h.1,h.2,k _ L i l (I.trans m) ρ})
   $(nO b)
  $(nO b)
theorem LY{o e:fA}{pos a:q7}{f:DF}{fa:AF}(g:X.A.units+65<r0)(b:z3 o "count" X.env (eval o X.env)=eval o X.env)
 (d:my X pos e)
 (c:(a.endLine==pos.line)=bd)(h:bI X e [])(i:DD X o f)(j:DA X [e] fa):DD X (.Call (.Attribute o "count" a) [e] [] pos) (sC f fa) :=
 MZ i j (λk l=>mD ql adP PySem.F.type_list_count (Po g) k l b d c h ρ)
def Jh (g:X.A.units+65<r0)(b:z3 o "index" X.env (eval o X.env)=eval o X.env)(d:my X pos e)(c:(a.endLine==pos.line)=bd)(h:bI X e [])(i:DD X o f)(j:DA X [e] fa):DD X (.Call (.Attribute o "index" a) [e] [] pos) (rK f fa) :=
 Lk i j (λk l=>mD ql adO PySem.F.type_list_index (UN g) k l b d c h ρ)
def Ed:V->List V->Hp->VK->Prop:=λx vs H Q=>∃(l:cA) (xs:List V) (y:V) (i:Nat),x=.ref l/\vs=[.int (i:Int),y]/\H l=ac (.L xs)/\i<=xs.length/\xs.length<a9/\Q .aP (upd H l<|.L (xs.take i++y::xs.drop i))
theorem Gy:∀{vs:List V}{a:List bt},aH vs a->∀i,aH (vs.take i) (a.take i)
 |_,_,_,0=>.nil
 |_,_,.nil,_+1=>.nil
 |_,_,.cons r t,i+1=>.cons r<|Gy t i
theorem Iq:∀{vs:List V}{a:List bt},aH vs a->∀i,aH (vs.drop i) (a.drop i)
 |_,_,h,0=>h
 |_,_,.nil,_+1=>.nil
 |_,_,.cons _ t,i+1=>Iq t i
theorem Rn:vx X "list.insert" Ed:=by
 ext pins s σ H x vs v us Q I rx g h;let(l,xs,y,i,rfl,rfl,d,hi,hz,q):=h;$$rx;cases g with
 |cons j rs =>
  cases rs with
  |cons k m =>
   $$$m;ext1 u;let(t,rfl):=j;let(z,its,n,r,hl,e):=I.uM d;let c:its.length=xs.length:=r.length.symm;let b:¬(!Builtin.List.listFitsIndex (i:Int))=bd:=by let:=kF;$$(ab3);simp?[l4,adN,decide_eq_false_iff_not,not_or,Classical.not_not];constructor<;>lia
   let hsz:its.toArray.size<=sizeLine:=by rw[fv];lia
   obtain⟨a,f⟩:∃a:Int,a=(i:Int):={_,ρ};rw[<-f]at b ⊢;let o:=AutoSeq1.list_insert_list_int_val_1 l its.toArray n a t u b hsz;$(HT adE {_,e,ρ} F.entry_list_insert (F.args_list_insert_3 _ _ _) o {e,?_});$({.aP,_,I.wA (its':=its.take i++u::its.drop i) d e ?_ ((Gy r i).append (.cons k<|Iq r i)) ?_,ρ,q})
   .let p:(if a<0 then(a+(its.toArray.size:Int)).toNat else min a.toNat its.toArray.size)=i:=by rw[if_neg (by lia),fv];lia
    dsimp;rw[p];apply afN;simp[c,hi];rw[aaw (by rw[iW];lia)]
   simp?[fk,fq,f',iW];lia
def tM:Dat->List Dat->Option (Dat×Dat)
 |.L xs,[.int i,d]=>if 0<=i/\i<=xs.length/\xs.length<a9 then ac (.aP,.L (xs.take i.toNat++d::xs.drop i.toNat))else al
 |_,_=>al
theorem CL{K:e6}{H:Hp}:∀{ds:List Dat}{vs:List V},aw K H ds vs->∀i,aw K H (ds.take i) (vs.take i)
 |_,_,_,0=>by simp[aw]
 |[],_,h,i+1=>by rw[show _=[]from h];simp[aw]
 |d::ds,_,a,i+1=>by let(v,r,e,q,t):=a;rw[e];$({v,_,ρ,q,CL t i})
theorem Hl{K:e6}{H:Hp}:∀{ds:List Dat}{vs:List V},aw K H ds vs->∀i,aw K H (ds.drop i) (vs.drop i)
 |_,_,h,0=>h
 |[],_,h,i+1=>by rw[show _=[]from h];simp[aw]
 |d::ds,_,a,i+1=>by let(v,r,e,q,t):=a;rw[e];$(Hl t i)
def OX{K:e6}:MD K "list" Ed tM:=by
 ext H Hi p c ds vs d c' Q e sm f r k;unfold tM at e;$$$$$e
 .ext1 xs i dd;$$$$$e
  .ext1 g;let(rfl,rfl):=sP e;let(h,j,a,l):=f;let(v0,vr,rfl,b,v,vr',rfl,m,n):=r;$$n;$$b;let hl:=a.length;refine{p,h,v,i.toNat,ρ,by rw[ti g.1],j,∅,∅,k .aP _ {_,bw,aw.append (CL a _) {v,_,ρ,m,Hl a _},l} rfl}
  $(nO e)
 $(nO e)
def LA (k:X.N.findIdx? (·==x)=ac i)(l:cw X.env.scope x)(hd:bM x)(m:cT x)(f:z3 (.Name x c) "insert" X.env (eval (.Name x c) X.env)=eval (.Name x c) X.env)(j:((YP pos<|ma [e,b] X.env).all (λx=>!x.1)&&(af7 pos<|aeL [] X.env).all (λx=>x.1.isSome)&&am ([e,b].length+([]:List adt).length+(if([]:List adt).isEmpty then 0 else 1)<30))=bd)(g:(a.endLine==pos.line)=bd)(p:bI X e [b])(n:(YP pos<|ma [b] X.env).any (·.1)=bi)(o:um (.Call (.Attribute (.Name x c) "insert" a) [e,b] [] pos) al d.line X.env=pure false)(q:DA X [e,b] fa) :
  cH X (.Expr (.Call (.Attribute (.Name x c) "insert" a) [e,b] [] pos) d) (mw<|iM i tM fa) :=
 Bb (DQ i (d6 k) l (λh=>mD ql adE PySem.F.type_list_insert Rn (eX (d6 k) l hd m) h f j g p n) OX q) o
def Dd(d:cA)(o:ua)(kvs:List (Key×V)):It:=⟨λi H=>H d=ac (.aZ o<|.dK kvs)/\i<kvs.length,λi H v a=>a=H/\∃k x,kvs[i]?=ac (k,x)/\v=kV k,λi H=>H d=ac (.aZ o<|.dK kvs)/\kvs.length<=i⟩
def MG (h:jM k u=bd):RelV (kV k) u:=by
 let(i,t,rfl,rfl)||(x,t,rfl,rfl):=ju h
 .$(⟨t,ρ⟩)
 $(⟨t,ρ⟩)
def VH{P:hE}{w:iR}{K:e6}{J:fA}{d it:cA}{o:ua}{kvs:List (Key×V)}{vs:List (Key×bt)}{ep:Nat}(n:KV kvs vs)(hne:d≠it)(D:∀h:k7,h.get? d=ac o->h.DictAt (cU P w) d vs ep) :
  Turn P w K J (Dd d o kvs) [it] it (λi h=>h.IsKeyIter it d i vs.length ep) where
 mem:=⋯
 obj:=λi h st b a=>by
  let e:b=it:=by$$$$a
  $$e;let(o,e,c,d):=st;$({o,e,λv z=>by rw[d]at z;lk})
 keep:=λi h h' st k=>by let(o,e,c,d):=st;$({o,k it ⋯ o e,c,d})
 item:=by
  ext X p hw q F i f s G H E I g st r;subst p hw q;let(t,u,L,x,y,A):=g it ⋯;let(hd,hi):=r;let B:=D s.heap (I.aj d _ hd).1;let j:i<vs.length:=by rw[<-n.length];$hi
  let hx:=b8 j;$(wpAny_pyNext_dict_item st B hx λkey h' C m M=>?_);let N:Inv X f G H {s with heap:=h',toks:=s.toks}:=I.turned (λb o a e=>(M.2 b a).trans e) t u x y A;let(o',e,c,dd):=id m;let O:kvs[i].1=vs[i].1:=by let:=congrArg (λl=>l[i]?) n.keys;simp?[ee,b8 hi,b8 j]at this;$(Option.some.inj this)
  $({_,ρ,p9 e c dd ρ {kV kvs[i].1,H,N,by rw[O];$(MG C),{ρ,kvs[i].1,kvs[i].2,b8 hi,ρ},m,λb a=>(g b a).1}})
 done:=by ext X p hw q F i f s G H E I g st r;subst p hw q;let(t,u,L,x,y,A):=g it ⋯;let(hd,hi):=r;let B:=D s.heap (I.aj d _ hd).1;$(wpAny_pyNext_dict_end (I.ok.hd F) st B (List.getElem?_eq_none (by rw[<-n.length];$hi)) λh' Q=>{ρ,I.turned (λb o a e=>Q b o a e) t u x y A})
 self:=λ_ _ _ _ _ st h=>aeI st h
def Inv.aZ (I:Inv X f h H s)(e:H d=ac (.dK kvs))(j:s.heap.get? d=ac o):Inv X f h (upd H d<|.aZ o<|.dK kvs) s:=by
  let g:∀b u,H b=ac u->u≠.dK kvs->b≠d:=by lia
  let un:Un X.fs [] H (upd H d<|.aZ o<|.dK kvs) s.heap s.heap :=
    ⟨λb a q _ _ _=>q,λb a q _ _ _=>⟨a.slots,q⟩,λb a q n _=>by rw[aA (λz=>by simp!)];$n,λb a q _=>⟨a,q⟩,
     λb xs q=>by rw[aA (g b _ q ⋯)];$q,λb a u q=>by rw[aA (g b _ q ⋯)];$q,λb ps q=>{#[],by rw[aA (g b _ q ⋯),q];simp}⟩
  let st:∀b u,cN X.prog X.w H s.heap b u->cN X.prog X.w (upd H d<|.aZ o<|.dK kvs) s.heap b u:=λb u x =>
    x.hX (λc v _ q=>q) (λc q=>by rw[aA (g c _ q ⋯)];$q) λc xs q=>by rw[aA (g c _ q ⋯)];$q
  let aj:ck X.prog X.w (upd H d<|.aZ o<|.dK kvs) s.heap:=λb u q=>by
    ext(i:b=d)
    · $$i;rw[bw]at q;$$$$$$q;$({j,st _ _<|I.aj _ _ e})
    rw[aA i]at q;$(st _ _<|I.aj b u q)
  $(I.un un aj)
end
structure lC (x:ew):Prop where
 ok:True
section
variable{X:Cx}{pos:q7}
def tQ(i:Nat)(g:DF):DF:=λZ=>match Z[i]? with
 | some (.D<|.eQ a)=>(g Z).bind λp=>match p.1 with
  |.str k=>(dC a k).map λd=>(d,p.2)
  |_=>al
 |_=>al
def Sh (hx:lC x)(m:X.N.findIdx? (·==x)=ac i)(q:cw X.env.scope x)(r:X.A.units+1<r0)(hd:bM x)(c:cT x)(s:oQ b)(t:DD X b g):DD X (.Subscript (.Name x l) b pos) (tQ i g):=by
 let(tb,u,w):=t;$({_,zP r (eX (d6 m) q hd c) u s,λz ps Z B H C d Z' Q e S k=>?_});unfold tQ at e;$$$$$e
 .ext1 ks D;let(n,Z1,E,e):=oB e;dsimp at e;$$$$$e
  .ext1 f;let(d',F,e):=oM e;$$$e;let(v0,G,p,o,kvs,rfl,I,J):=S.D i _ D;$({_,G,w z ps Z B H C _ _ _ E S λy K h j a L=>?_});$$L;let(v,M,O):=((J.mono a).find f).1 d F;$({p,v,ρ,?_,k v K h j a O});rw[<-M];$(ι {kvs,px f,τ {o,j.sub _ _<|a _ _ I},ρ,ρ})
  $(nO e)
 $(nO e)
end
def Rd.Ag (h:Rd H a (.L xs))(h':Rd H a (.L ys)):xs=ys:=by let h||(o,h):=h<;>let h'||(o',h'):=h'<;>rw[h]at h'<;>$$$h'<;>rfl
def Ee(a:cA):It:=⟨λi H=>∃xs x,Rd H a (.L xs)/\xs[i]?=ac x,λi H v b=>∃p x,H p=al/\v=.ref p/\b=upd H p (.U [.int (i:Int),x])/\∀xs,Rd H a (.L xs)->xs[i]?=ac x,λi H=>∃xs,Rd H a (.L xs)/\xs.length<=i⟩
def Jt{P:hE}{w:iR}{K:e6}{elts:List fA}{x1:Nat}{J:q7}{a e it:cA}(G:e≠it) :
  Turn P w K (.Tuple elts x1 J) (Ee a) [e,it] e (λi h=>(∃l,IsEnum h e it (i:Int) l)/\h.IsListIter it a i) where
 mem:=⋯
 obj:=λi h st b g=>by
  let((l,j),o,eo,c,d):=st;simp?[dV,eT,or_false]at g;let rfl||rfl:=g
  .$({_,j,λv z=>by lk})
  $({o,eo,λv z=>by rw[d]at z;lk})
 keep:=λi h h' st k=>{st.1.imp λl j=>k e ⋯ _ j,st.2.at λo q=>k it ⋯ o q}
 item:=by
  ext X L hw M f i B s U H E I C st N;subst L hw M;let((l,j),hit):=st;let(xs,x,rd,hx):=N;let(z,its,n,O,Q):=rd.ok I.aj;let R:s.heap.IsList a its.toArray:={_,Q,ρ,n,ρ};let(u,hu,ru):=O.get hx;let A:=C e ⋯;let p:=C it ⋯;let elt:e<s.heap.objs.size:=e7 j;let(oi,V,_,_):=id hit;let S:it<s.heap.objs.size:=e7 V;$(wpAny_pyNext_enum_item j hit R (x:=u) (by$$$$hu) G λh1 Y T Z hz1 be=>?_);$({_,ρ,wpAny_letOwnedTupleGo_enum Y λD yq y=>?_});let y:aaX e h1 D:=y;let fr:H s.heap.objs.size=al:=I.aj.fresh<|eS _;let cG:∀b o,b≠e->b≠it->s.heap.get? b=ac o->D.get? b=ac o:=λb o h h' q=>y.extBut b o h<|be b o h h' q;let V8:D.get? s.heap.objs.size=ac {cls:=.type "tuple",data:=.seq #[.int i s.toks,u]}:=(y.2 _<|aby elt).trans Z;let t:∀{b:cA},b∉[e,it]->b≠e/\b≠it:=λ{b} h=>{λz=>h (by simp[z]),λz=>h (by simp[z])};let dZ:∀b u,H b=ac u->b≠e/\b≠it:=λb u q=>{df q A.1,df q p.1};let F:∀b u,H b=ac u->b≠s.heap.objs.size:=λb u q=>df q fr;$({.ref s.heap.objs.size,upd H s.heap.objs.size<|.U [.int (i:Int),x],?_,ρ,⟨_,x,fr,ρ,ρ,λys hy=>by rw[hy.Ag rd];$hx⟩,⟨⟨u,?_⟩,(T.extBut y.extBut<|Ne.symm G)⟩,λb g=>?_})
  .show Inv X B U (upd H s.heap.objs.size<|.U [.int (i:Int),x]) {s with heap:=D,gens:=s.gens,drawn:=s.drawn,toks:=s.toks+1};$(Inv.step (s:=s) (H:=H) (h':=D) I (g':=s.gens) (d':=s.drawn) (t':=s.toks+1) (ch:=[e,it]) (λb g=>?_) (λb o _ _ f q _=>cG b o (t f).1 (t f).2 q) (λb o _ _ f q _=>{o.slots,cG b o (t f).1 (t f).2 q})
    (λb o f q n=>by rw[aA (gk<|e7 q)];$n) (λb o f q=>{o,cG b o (t f).1 (t f).2 q}) (λb ys q=>by rw[aA (F b _ q)];$q) (λb ob w q=>by rw[aA (F b _ q)];$q)
    (λb ps q=>{#[],by rw[aA (F b _ q),q];simp}) (λm hm=>?_) (λb w q=>?_) I.bare)
   .simp?[dV,eT,or_false]at g;let rfl||rfl:=g
    .$(⟨A.2.2.2.1,A.2.1,A.2.2.2.2.1,A.2.2.2.2.2⟩)
    $(⟨p.2.2.2.1,p.2.1,p.2.2.2.2.1,p.2.2.2.2.2⟩)
   .let(o,es,ep,ho,r):=hm;$({o,es,ep,cG _ o (Ne.symm A.2.1) (Ne.symm p.2.1) ho,r})
   ext(g:b=s.heap.objs.size)
   .$$g;rw[bw]at q;$$$$$$q;$({by show 2<=a9;$$(a9);decide,[.int i s.toks,u],.cons {_,ρ}<|.cons ru .nil,_,V8,rfl,_,rfl})
   rw[aA g]at q;$((I.aj b w q).hX (λc v f r=>?_) (λc r=>by rw[aA (F c _ r)];$r) λc ys r=>by rw[aA (F c _ r)];$r)
   let rfl||f:=f
   .$(cG c v (dZ _ _ q).1 (dZ _ _ q).2 r)
   $(cG c v (dZ _ _ f).1 (dZ _ _ f).2 r)
  .let:((i+1:Nat):Int)=(i:Int)+1:=by push_cast;rfl
   rw[this];$yq
  let V9:b<s.heap.objs.size:=by
   simp?[dV,eT,or_false]at g;let rfl||rfl:=g
   .$elt
   $S
  rw[aA (gk V9)];$((C b g).1)
 done:=by ext X L hw M f i B s U H E I C st N;subst L hw M;let((l,j),hit):=st;let(xs,rd,hl):=N;let(z,its,n,O,Q):=rd.ok I.aj;let R:s.heap.IsList a its.toArray:={_,Q,ρ,n,ρ};let(f0,f1,f2,f3,f4,f5):=C it ⋯;let hll:=O.length;$(wpAny_pyNext_enum_end (I.ok.hd f) j hit R (by simp;lia) λh' eb=>{ρ,I.turned (t':=s.toks) (λb o g e=>eb b o g e) f0 f1 f3 f4 f5})
 self:=λ_ _ _ _ _ st h=>by let((l,j),_):=st;$(afi j h)
section
variable{X:Cx}
def Se(c:TA):TI:=λd H R=>c d H λvs b=>∃a xs,vs=[.ref a]/\Rd b a (.L xs)/\R (Ee a) b
def Uk (o:Gl X "enumerate")(r:X.mg "enumerate"=al)(t:PA X [a] j)(v:ma [a] X.env=[(false,eval a X.env)]:=by rfl):PI X (.Tuple elts m g) (.Call (.Name "enumerate" p) [a] [] pos) (Se j):=by
 $(λi s w H R I h=>Call_<|pK I o r boot_enumerate<|H9 (aF (t pos i s w H _ I h) λus c g=>?_) v ρ);let(vs,x,d,y,A):=g;let(a,xs,rfl,rd,q):=A;let(u,rfl,B):=y.one;$$B;let(z,its,n,rv,e):=rd.ok d.aj;$(call_enumerate_1 e λh' k hit hsz C=>afi k ?_);$({_,[c.heap.objs.size+1,c.heap.objs.size],_,_,x,ρ,d.kept (t':=c.toks) C,Jt (show c.heap.objs.size+1≠c.heap.objs.size from Nat.succ_ne_self _),{{_,k},hit},λb l=>?_,q});let f:c.heap.objs.size<=b:=by
  simp?[dV,eT,or_false]at l;let rfl||rfl:=l
  .$(abf _)
  $(eS _)
 $(d.kB f<|d.aj.fresh f)
end
def vR(ds:List Dat):List Dat:=(lb ds.length).map λi:Nat=>.U [.int (i:Int),ds.getD i .aP]
def uF(fa:AF):IF:=λZ=>(fa Z).bind λp=>match p.1 with
 |[.L ds]=>ac (vR ds,p.2)
 |_=>al
section
variable{X:Cx}{pos:q7}{P:hE}{w:iR}{A:nL}{R:aen->dq->Prop}{I:cA}{fp wr:List cA}{G:Array adC->Array adC->Prop}{n:Nat}{Pr:Nat->bt->Prop}{St:Nat->dq->Prop}{E:bt->dq->Prop}{s:dq}{apos:q7}
def Nd (o:Gl X "enumerate")(r:X.mg "enumerate"=al)(u:ma [a] X.env=[(false,eval a X.env)])(z:DA X [a] fa):dv X (.Tuple elts m f) (.Call (.Name "enumerate" p) [a] [] pos) (uF fa):=by
 let(t,B,q):=z;$({_,Uk o r B u,λC ps Z D H F items Z' R b S k=>?_});unfold uF at b;let(as,Z1,J,b):=oB b;dsimp at b;$$$$$b
 .ext1 ds;let(rfl,rfl):=sP b;$(q C ps Z D H F _ _ _ J S λvs K h j L M=>?_);let(v,vr,rfl,(N,c,rfl,rd,rs),O):=M;$$O;let hl:=rs.length;$({N,c,ρ,Rd.mono j.sub rd,k _ K h j L λi H2 g=>{λd e=>?_,λhle=>{c,Rd.mono g rd,?_}}})
  .let hi:i<ds.length:=by let:=(bg.1 e).1;simp![vR]
   let l:d=.U [.int (i:Int),ds[i]]:=by unfold vR at e;simp?[ee,abX hi]at e;simp at e;simp!
   subst l;let(x,ex,rx):=rs.get<|b8 hi;$({{c,x,Rd.mono g rd,ex},λy H3 Q=>τ ?_});let(p,x',T,rfl,rfl,U):=Q;let:=U c<|Rd.mono g rd;rw[ex]at this;$$$$$$this;refine{p,_,T,ρ,λHi' V n=>{p,_,ρ,bj.of bw,_,_,ρ,ρ,_,_,ρ,(rx.mono V).mono (j6 n),ρ}}
  simp![vR]
 exact nO b
def gS(a:List Key)(v:Key):List Key:=if a.any (λx=>am<|x=v)then a else a++[v]
def dO(val:Nat->Key)(i:Nat):List Key:=((lb i).map val).foldl gS []
def Fv(val)(i):dO val (i+1)=gS (dO val i) (val i):=by$$(dO);rw[aeR,ft,aew];rfl
theorem yo(val):∀i,(dO val i).length<=i
 |0=>eS _
 | i+1=>by
  let ih:=yo val i;rw[Fv];$$(gS);split
  .lia
  simp!
def Ui(a)(v k):(gS a v).any (λx=>am<|x=k)=(a.any (λx=>am<|x=k)||am (k=v)):=by
 delta gS;ext(h:a.any (λx=>am<|x=v)=bd)
 .rw[if_pos h];ext(e:k=v)
  .$$e;rw[h];simp
  simp[e]
 rw[if_neg h,List.any_append];ext(e:k=v)
 .$$e;simp
 let:¬v=k:=λz=>e z.symm;simp[e,this]
def GY(a)(v):(gS a v).length=if a.any (λx=>am<|x=v)then a.length else a.length+1:=by delta gS;split<;>simp
theorem Lx(W:WalksS P w A.in1 I fp wr G n Pr St)(S:cA)(B:S∉fp)(val:Nat->Key)(M:∀i v,Pr i v->jM (val i) v=bd/\v.scannable=bd)(hb:n+1<afx) :
  ∀(k i:Nat) (s:dq),n-i=k->i<=n->St i s->s.heap.SetOf (cU P w) S (λa=>(dO val i).any λx=>am<|x=a) (dO val i).length ->
   (∀s',Moved (S::wr) G s s'->s'.heap.SetOf (cU P w) S (λa=>(dO val n).any λx=>am<|x=a) (dO val n).length->R (.ok<|.ret .none) s') ->
   abo (hJ P w) A (.builtin "set.update.loop" {[.ref S,.ref I],[]}) R s:=by
 let hw:S∉wr:=λh=>B<|W.sub _ h;let C:∀b∈wr,b∈S::wr:=λb z=>eH _ z;ext k;induction k with
 |zero =>
  ext i s N hi st j l;obtain rfl:i=n:=by lia
  apply aa7 abe;$(cn (W.done s _ _ st λs' c=>?_));$(fj<|l s' (c.mono C) ?_);let(o,p,ep,t,q,r):=j;$({o,p,ep,t,c.heap S _ hw q,r})
 |succ k O =>
  ext i s N hi st j l;let d:i<n:=⋯;apply aa7 abe;$(cn (W.item i s _ _ d st λv s' Q D c=>?_));let(f,H):=M i v Q;let J:s'.heap.SetOf (cU P w) S (λa=>(dO val i).any λx=>am<|x=a) (dO val i).length:=by let(o,p,ep,tb,q,r):=j;$({o,p,ep,tb,c.heap S _ hw q,r})
  refine cn<|pA ?_;$$(setAdd);$(pA<|cn<|(cU P w).pyHash f ?_);let room:(dO val i).length+1<scanBound:=by let:=yo val i;lia
  refine wpAny_setAddHashed_of f H J room λh' g hS2=>?_;let K:h'.SetOf (cU P w) S (λa=>(dO val<|i+1).any λx=>am<|x=a) (dO val<|i+1).length:=by rw[Fv,GY];let e:(λa=>(dO val i).any (λx=>am<|x=a)||am (a=val i))=λa=>(gS (dO val i)<|val i).any λx=>am (x=a):=funext λa=>(Ui _ _ _).symm;simp!
  refine fj {adV Ts _,O (i+1) _ ∅ d (W.frame _ s' _ _ D (abf _) λb z o e=>?_) K λL u y=>?_}
  .rwa[g.2 b (λh:b=S=>B<|h ▸ z)]
  refine l L (Moved.trans W.gtrans ((c.mono C).then_heap (abf _) λb o z e=>?_) u) y;rwa[g.2 b (λh:b=S=>z<|h ▸ eR)]
def RU (hh:A.handled=al)(m:s.heap.IsList l items)(p:∀i v,items[i]?=ac v->jM (val i) v=bd/\v.scannable=bd)(q:items.size+1<afx)(h:∀(h':k7) (tk:Nat),h'.SetOf (cU P w) s.heap.objs.size (λa=>(dO val items.size).any λx=>am<|x=a) (dO val items.size).length->(∀b o,b<s.heap.objs.size->s.heap.get? b=ac o->h'.get? b=ac o)->Q (.ref s.heap.objs.size) {s with heap:=h',toks:=tk}) :
  gW (hJ P w) A (call (.type "set") [.ref l]) Q E s:=by
 $(UD m (λled R I h1 eh c f d g hit k=>?_) h);let j:A.in1.in1.in1.handled=al:=by simp[hh]
 $(Lx ((Walks.list j _ l c items).toS) s.heap.objs.size f val p q (items.size-0) 0 _ ⋯ (rp _) ⟨hit,g⟩ {_,#[],0,_,d,⟨ρ,ρ,ρ⟩,ρ,λe r=>by simp at r,λk=>by simp[dO],⋯,by rfl,rfl} k)
def y8(P:hE)(w:iR)(a:cA)(n:Nat):HO:=.ext λh=>n<4096/\∃S,h.SetOf (cU P w) a S n
def ji(ys:List ew):Nat:=(dO (λi=>px<|(ys[i]?).getD ow) ys.length).length
def Jl(m:X.calm=bd):bP X (.type "set") (λxs H Q=>∃(p:cA) (ys:List ew),xs=[.ref p]/\Rd H p (.L<|ys.map V.str)/\ys.length<1000/\∀a,H a=al->Q (.ref a) (upd H a<|y8 X.prog X.w a<|ji ys)):=by
 ext pins s σ H xs us Q I r h;let(p,ys,rfl,rd,hz,q):=h;let(u,rfl,x):=r.one;$$x;let(z,its,n,f,e):=rd.ok I.aj;let y:s.heap.IsList p its.toArray:={_,e,ρ,n,ρ};let g:its.length=ys.length:=by let:=f.length;$$$$this.symm
 $(RU (val:=λi=>px<|(ys[i]?).getD ow) (I.ok.hd m) y (λi v hi=>?_) (by rw[fv];$$(afx);$_) λh' tk c B=>?_)
 .let(t,rfl):=uk f (show its[i]?=ac v by$$$$hi);$({Dm _ t,ρ})
 let hsz:its.toArray.size=ys.length:=by rw[fv];$g
 rw[hsz]at c;$({.ref s.heap.objs.size,upd H s.heap.objs.size<|y8 X.prog X.w s.heap.objs.size<|ji ys,?_,ρ,q _<|I.aj.fresh (a:=s.heap.objs.size)<|eS _});let hle:ji ys<=ys.length:=yo _ _;$(I.laid (λb o j=>B b o (e7 j) j) (eS _) {{by lia,_,c},?_,λh1 h2 ⟨D,S,o,l,ep,t,d,r⟩ k=>{D,S,o,l,ep,t,k o d,r}});let(o,l,ep,t,d,_):=c;$(⟨o,d⟩)
def Sn:bP X (.builtin "len") (λxs H Q=>∃(a:cA) (n:Nat),xs=[.ref a]/\H a=ac (y8 X.prog X.w a n)/\Q (.int n) H):=by ext pins s σ H xs us Q I r h;let(a,n,rfl,c,q):=h;let(u,rfl,d):=r.one;$$d;let((hn,S,o,e,ep,t,f,b,hd,hel,hmem,hb,g,hsz),_,_):=I.aj a _ c;$$hsz;$(call_len_set f b hd g (by lia) {.int e.size,H,I.tok _,{_,ρ},q})
def vI(f:DF):DF:=λZ=>(f Z).bind λp=>match p.1 with
 |.L ds=>(d7 ds).bind λys=>if ys.length<1000 then ac (.int (ji ys:Nat),p.2)else al
 |_=>al
def Om (x:X.calm=bd)(y:Gl X "len")(z:X.mg "len"=al)(m:Gl X "set")(o:X.mg "set"=al)(j:bI X e [])(q:ma [.Call (.Name "set" l) [e] [] i] X.env=(false,eval (.Call (.Name "set" l) [e] [] i) X.env)::ma [] X.env)(h:DD X e f):DD X (.Call (.Name "len" p) [.Call (.Name "set" l) [e] [] i] [] pos) (vI f):=by
 let(t,pt,B):=h;$({_,vJ Sn y z abL (kI (zh (Jl x) m o ρ (kI pt pS j) ⋯ ρ j ρ) pS q) ⋯ ρ q ρ,λC ps Z D H F d Z' Q g S k=>?_});let(c,Z1,J,g):=oB g;dsimp at g;$$$$$g
 .let(ys,K,g):=oA g;$$$$$g
  .ext1 L;let(rfl,rfl):=sP g;$(B C ps Z D H F _ _ _ J S λv H1 r u M N=>?_);let(a,ws,rfl,rd,rs):=N;rw[lO K rs]at rd;$({a,ys,ρ,Rd.mono u.sub rd,L,λb O=>{b,ji ys,ρ,bw,?_}});$(k _ _ r (u.made O) M ρ)
  $(nO g)
 $(nO g)
def NT (d:abK [.LtE,.Lt] [b,c]=bi)(e:DD X a f)(i:DD X b g)(j:DD X c h):DD X (.Compare a [.LtE,.Lt] [b,c] pos) (jk eP Bt f g h):=BB rG rY wJ (nz λ_ _ _ _=>rfl) e i j d
structure ik (mg:ew->Option bt):Prop where
 any:mg "any"=al
 sum:mg "sum"=al
 set:mg "set"=al
 enum:mg "enumerate"=al
theorem DY (put:c->DS)(keep:c->Bool)(val:c->Dat):∀(xs:List c) (a:List Dat) (Z:DS),a.length+xs.length<=a9 ->
  (∀x∈xs,∀Z,(Z=j\/∃y,Z=put y)->g (enc x) Z=ac (put x))->(∀x∈xs,fc (put x)=ac (keep x,put x))->(∀x∈xs,keep x=bd->fe (put x)=ac (val x,put x))->(∀x∈xs,noOwn (put x)=bd)->(Z=j\/∃y,Z=put y) ->
  ∃d,compLoop g fc fe (xs.map enc) a Z=ac (a++(xs.filter keep).map val,d)
 |[],a,Z,_,_,_,_,_,_=>{Z,by simp[compLoop]}
 | x::xs,a,Z,t,k,l,m,o,hd=>by
  simp at t;let p:=k x (eR ..) Z hd;let q:=l x<|eR ..;let n1:=o x<|eR ..;let f:=λh (r:h.length+xs.length<=a9)=>DY put keep val xs h (put x) r (λy b=>k y<|eH _ b) (λy b=>l y<|eH _ b) (λy b=>m y<|eH _ b) (λy b=>o y<|eH _ b)<|τ ⟨x,ρ⟩;cases i:keep x with
  |false=>let(d,e):=f a ∅;$({d,?_});show(g (enc x) Z).bind _=_;rw[p];show(fc<|put x).bind _=_;rw[q,i];show(if noOwn (put x)=bd then compLoop g fc fe (xs.map enc) a (put x)else al)=_;rw[if_pos n1,e,abj,i];simp
  |true=>let(d,e):=f (a++[val x]) (by rw[fk];simp;$_);$({d,?_});show(g (enc x) Z).bind _=_;rw[p];show(fc<|put x).bind _=_;rw[q,i];show(fe<|put x).bind _=_;rw[m x (eR ..) i];show(if a.length<a9/\noOwn (put x)=bd then _ else al)=_;rw[if_pos {∅,n1},e,abj,i];simp
def kA{a:Type}{enc:a->Dat}{caps:List (Option Nat)}{fi:IF}{g:GF}{fc:BF}{fe:DF}{xs:List a}{Z Z1 Z2:DS}(put:a->DS)(keep:a->Bool)(val:a->Dat)(hi:fi Z=ac (xs.map enc,Z1))(b:aZ al caps Z1=Z2)(c:xs.length<=a9)
 (d:∀x∈xs,∀Z,(Z=cD caps Z2\/∃y,Z=put y)->g (enc x) Z=ac (put x))(f:∀x∈xs,fc (put x)=ac (keep x,put x))(h:∀x∈xs,keep x=bd->fe (put x)=ac (val x,put x))(i:∀x∈xs,noOwn (put x)=bd) :
  eO caps al fi g fc fe Z=ac (.O<|.L<|(xs.filter keep).map val,Z2):=by
 let(Z',e):=DY put keep val xs [] (cD caps Z2) (by$$$$c) d f h i<|ι ρ;$(El hi b e)
def dy{a:Type}{enc:a->Dat}{caps:List (Option Nat)}{fi:IF}{g:GF}{fe:DF}{xs:List a}{Z Z1 Z2:DS}(put:a->DS)(val:a->Dat)(hi:fi Z=ac (xs.map enc,Z1))(b:aZ al caps Z1=Z2)(c:xs.length<=a9)
 (d:∀x∈xs,∀Z,(Z=cD caps Z2\/∃y,Z=put y)->g (enc x) Z=ac (put x))(e:∀x∈xs,fe (put x)=ac (val x,put x))(f:∀x∈xs,noOwn (put x)=bd) :
  eO caps al fi g (λZ=>ac (true,Z)) fe Z=ac (.O<|.L<|xs.map val,Z2):=by
 let:=kA (enc:=enc) (caps:=caps) (fi:=fi) (g:=g) (fc:=λZ=>ac (true,Z)) (fe:=fe) (xs:=xs) (Z:=Z) put (λ_=>true) val hi b c d (λ_ _=>rfl) (λx hx _=>e x hx) f;rw[aaU.2 (by intros;rfl)]at this;$this
theorem zq (f):∀cs:List a,kJ (cs.map λc=>.int<|f c)=ac (cs.map f)
 |[]=>rfl
 |c::cs=>by show(kJ (cs.map λc=>.int<|f c)).map (f c::·)=_;rw[zq f cs];rfl
theorem nD (f):∀cs:List a,d7 (cs.map λc=>.str<|f c)=ac (cs.map f)
 |[]=>rfl
 |c::cs=>by show(d7 (cs.map λc=>.str<|f c)).map (f c::·)=_;rw[nD f cs];rfl
def xI{a:Type}(f:a->Bool)(cs:List a):ou [.L (cs.map λc=>.bl<|f c)]=ac (.D<|.bl<|cs.all f):=by show(jv _).map _=_;rw[rN f];simp
def Fm{a:Type}(f:a->Bool)(cs:List a):qU [.L (cs.map λc=>.bl<|f c)]=ac (.D<|.bl<|cs.any f):=by show(jv _).map _=_;rw[rN f];simp
def VU (f:a->Int)(cs:List a):tE [.L (cs.map λc=>.int<|f c)]=ac (.D<|.int (cs.map f).sum):=by show(kJ _).map _=_;rw[zq f];rfl
def Bz (f)(h:cs≠[]):vw [.L (cs.map λc=>.int<|f c)]=ac (.D<|.int<|fP<|cs.map f):=by show(kJ _).bind _=_;simp![zq]
theorem A2{a:Type}(f:a->ew){cs:List a}(h:cs≠[]):mN [.L (cs.map λc=>.str<|f c)]=ac (.D<|.str<|dn<|cs.map f):=by show(d7 _).bind _=_;rw[nD f];show(if cs.map f=[]then al else _)=_;rw[if_neg (by$$$$h)]
def zt{a:Type}{f:DF}{Z Z1:DS}{cs:List a}(g:a->ew)(h:f Z=ac (.L (cs.map λc=>.str<|g c),Z1))(hz:cs.length<1000):vI f Z=ac (.int (ji (cs.map g):Nat),Z1):=by simp![vI,nD]
def Qz (h:fa Z=ac ([.L ds],Z1)):uF fa Z=ac ((lb ds.length).map λi:Nat=>Dat.U [.int (i:Int),ds.getD i .aP],Z1):=by$$(uF);rw[h];rfl
theorem Gh:∀(more a:List (Key×V)),((a++more).map (·.1)).Nodup->lI a more=a++more
 |[],a,_=>by show a=_;rw[z6]
 | p::r,a,h=>by
  let e:putK a p.1 p.2=a++[p]:=by
   delta putK;rw[if_neg];ext z;let(q,b,e):=ll.1 z;let e:q.1=p.1:=by$$$$e
   rw[ft,hM]at h;$(h.2.2 q.1 (a5.2 ⟨q,b,ρ⟩) p.1 ⋯ e)
  show lI (putK a p.1 p.2) r=_;simp?[e,Gh r (a++[p]) (by rw[nE];$h),nE];rfl
def A':List Dat->Option Res
 |[.L ds]=>ac (.D<|.U ds)
 |_=>al
def Sv (a:Gl X "tuple")(b:X.mg "tuple"=al)(c:bI X e [])(d:DA X [e] fa):DE X (.Call (.Name "tuple" p) [e] [] pos) (cE A' fa):=pO HI (by
  ext H0 ps Z σ H Hi vs ds o Q e S r k;delta A' at e;$$$$$e
  .$$$$$$e;let(v,vr,rfl,(a,b,rfl,rd,rs),d):=r;$$d;$({a,b,ρ,ι {ι<|Rd.mono S.sub rd,λl f=>?_}});let(g,c):=S.laid f;$(k (.ref l) _ _ g c {l,_,ρ,bj.of bw,aw.mono c rs})
  $(nO e)) a b (by decide +kernel) d ⋯ ρ c ρ
end
section
open Sem (wp)
def D5:entryFor table "dict.update.loop"=ac aaZ.«dict.update.loop»:=entryFor_of_tree (by kernel_rfl)
def vL:plainId "dict.update.loop"=bd:=by decide +kernel
def Ta (hx:s.heap.IsList a xs)(hd:∀o,s.heap.get? a=ac o->o.dict=al)(i:adz (.type "list") name=pure al)(j:(["__module__","__name__","__qualname__","__doc__","__annotations__"]:List ew).contains name=bi)(q:A.handled=al)(h:∀h' tk,(∀b o,s.heap.get? b=ac o->h'.get? b=ac o)->Q al {s with heap:=h',toks:=tk})(hsz:name.length+100<=sizeLine:=by size_fits) :
  gW (hJ prog w) A (getAttr? (.ref a) name) Q E s:=by
 let(o,hx,n,k,f):=hx;let hd:=hd o hx;let(c,cg,D,r):=o;subst n f hd;let(t,g,d,tk,os):=s;let p:∀l,(⟨t,g,d,l,os⟩:dq).TypeIs (.ref a) "list":=λ_=>{_,hx,ρ};let f1:=sub_AttributeError;let f3:=adF.lookup;let f4:=F.slot_list_getattribute.bind<|.ref a;let f5:=am_list_getattr_none;unfold getAttr? getAttrBy? getAttrBy
 repeat (any_goals (first|assumption|$(p _)|((with_reducible show gW _ _ (call (Value.builtin "list.__getattribute__") _ _) _ _ _);$(HT adF (p _) am_entry_list_getattribute (F.args_list_getattribute_2 _ _) (meets_getattribute_miss_list a xs k r name _ i j hsz) ⟨hx,q,λh' l e m=>?_⟩))|wp_step))
 let(t',u',he):=m.there;show gW _ _ (ae6 _ _ _ _ _ _ _) _ _ _;$$(ae6)
 repeat (any_goals (first|assumption|wp_step))
 $(h _ _ m.of.keeps)
section
variable{prog:hE}{w:iR}{K:Type}[DecidableEq K]{knd:KeyKind prog w K}{A:nL}{E:bt->dq->Prop}{s:dq}
def Vo (h:aaM s.heap a #[k,v])(q:Q [k,v] s):gW (hJ prog w) A (acy<|.ref a) Q E s:=by let(o,b,c,n,hd):=h;$(cn<|aed (⟨o,b,c⟩) ?_);$(cn<|wpAny_seqItems b hd ?_);$(fj q)
structure zC (knd:KeyKind prog w K) (h:k7) (u:bt) (kv:K×bt) (a:cA) (k:bt):Prop where
 at_:u=.ref a
 U:aaM h a #[k,kv.2]
 key:knd.is kv.1 k=bd
theorem IK (hh:A.handled=al)(z:l≠I)(q:d≠I)(O:d≠l)(hl:more.length=items.size)(hz:more.length<=a9) :
  ∀(m i:Nat) (s:dq),items.size-i=m->i<=items.size->s.heap.IsListIter I l i->s.heap.IsList l items->s.heap.DictOf knd d (aei []<|more.take i) ->
   (∀(j:Nat) (u:bt) (y:K×bt),items[j]?=ac u->more[j]?=ac y->∃a k,zC knd s.heap u y a k/\a≠I/\a≠d) ->
   (∀h' tk,h'.DictOf knd d (aei [] more)->(∀b o,b≠I->b≠d->s.heap.get? b=ac o->h'.get? b=ac o)->R (.ok<|.ret .none) {s with heap:=h',toks:=tk}) ->
   ∀(n:Int) (t:Tok),abo (hJ prog w) A (.builtin "dict.update.loop" {[.ref d,.ref I,.int n t,.none],[]}) R s:=by
 ext m;induction m with
 |zero=>ext i s Z hi st F hd G H n t;let P:i=items.size:=⋯;$$P;apply aa7 D5;delta aaZ.«dict.update.loop»;let W:=Walks.list (prog:=prog) (w:=w) (A:=A.in1) (by simp[hh]) I l z items;$(cn (W.done s _ _ ⟨st,F⟩ λh' tk k=>?_));$(cn<|fj ?_);rw[aaw (by lia)]at hd;$(fj (H h' tk ?_ λb o g J e=>k b o (by$$$$g) e));let(o,L,ep,c,r):=hd;$({o,L,ep,k d o (by$$$$q) c,r})
 |succ m ih =>
  ext i s Z hi st F hd G H n t;let B:i<items.size:=⋯;apply aa7 D5;delta aaZ.«dict.update.loop»;let W:=Walks.list (prog:=prog) (w:=w) (A:=A.in1) (by simp[hh]) I l z items;$(cn (W.item i s _ _ B ⟨st,F⟩ λv g tk hv C k1=>?_));let D:more[i]?=ac more[i]:=b8 ⋯;let(a,k,M,na,nd):=G i v _ hv D;let ev:=M.at_;$$ev;let x:∀b o,b≠I->s.heap.get? b=ac o->g.get? b=ac o:=λb o h e=>k1 b o (by$$$$h) e;let Q:g.DictOf knd d (aei []<|more.take i):=by let(o,L,ep,c,r):=hd;$({o,L,ep,x d o q c,r})
  let S:aaM g a #[k,more[i].2]:=by let(o,c,r):=M.U;$({o,x a o na c,r})
  let hsz:(aei []<|more.take i).length<=sizeLine:=by let:=merged_length_le ([]:List (K×bt))<|more.take i;simp at this;lia
  $(cn<|pA<|cn<|wpAny_tryCatch<|Vo S ?_);$(pA (wpAny_dictSet_pairs M.key Q λJ T N=>?_));let U:∀b o,b≠I->b≠d->s.heap.get? b=ac o->J.get? b=ac o:=λb o h f e=>(N.2 b f).trans (x b o h e);$(fj {adV vL _,ih (i+1) {s with heap:=J,toks:=tk+1} ⋯ B ?_ ?_ ?_ ?_ ?_ _ _})
  .let(o,c,r):=C.1;$({o,(N.2 I<|Ne.symm q).trans c,r})
  .let(o,c,r):=C.2;$({o,(N.2 l<|Ne.symm O).trans c,r})
  .rwa[merged_take_succ _ _ _ _ D]
  .ext j u y hu V;let(a,k,p,n1,n2):=G j u y hu V;$({a,k,{p.at_,?_,p.key},n1,n2});let(o,c,r):=p.U;$({o,U a o n1 n2 c,r})
  $(λh' X Y k'=>H h' X Y λb o h f e=>k' b o h f<|U b o h f e)
def NX (hh:A.handled=al)(x:s.heap.IsList l items)(hd:∀o,s.heap.get? l=ac o->o.dict=al)(J:more.length=items.size)(L:more.length<=a9)(M:∀(j:Nat) (u:bt) (n:K×bt),items[j]?=ac u->more[j]?=ac n->∃a k,zC knd s.heap u n a k)(h:∀h' tk,h'.DictOf knd s.heap.objs.size (aei [] more)->(∀b o,s.heap.get? b=ac o->h'.get? b=ac o)->Q (.ref s.heap.objs.size) {s with heap:=h',toks:=tk}) :
  gW (hJ prog w) A (call (.type "dict") [.ref l]) Q E s:=by
 apply callType_codes (Q₁:=λobj g=>obj=.ref s.heap.objs.size/\g={s with heap:=s.heap.push {cls:=.type "dict",data:=.dict #[]} }) F.kt_called_dict (F.kt_typeCall_dict_1 _) F.entry_dict_init<|kt_code_dict_new _ ⟨ρ,ρ⟩;ext obj g ⟨rfl,rfl⟩;let d:(s.heap.push {cls:=.type "dict",data:=.dict #[]}).DictOf knd s.heap.objs.size []:=af' s.heap;let i:=x.push {cls:=.type "dict",data:=.dict #[]};let q:=let⟨_,c,_⟩:=x;e7 c
 let z:∀o,(s.heap.push {cls:=.type "dict",data:=.dict #[]}).get? l=ac o->o.dict=al:=λo e=>by let(o',c,r):=x;rw[eJ _ c]at e;$$$$$$e;$(hd _ c)
 $({d.typeIs,F.args_dict_init_2 _ _,?_});delta aaZ.«dict.__init__»;apply cn;$(cn<|aez d.typeIs ?_);apply fj;$(cn<|aed i.typeIs ?_);$(cn<|Ta i z (by rw[typeLookup_type,builtinLookup_eq_fast];kernel_rfl) (by decide +kernel) (by simp[hh]) (λm tk y=>?_) (by decide +kernel));$(cn<|wpAny_rule ?_);let t:m.IsList l items:=by let(o,c,r):=i;$({o,y _ _ c,r})
 $(cn<|xr (s:={s with heap:=m,toks:=tk}) t ?_);let v:m.DictOf knd s.heap.objs.size []:=by let(o,B,ep,c,r):=d;$({o,B,ep,y _ _ c,r})
 let f:s.heap.objs.size<m.objs.size:=by let(o,B,ep,c,r):=v;$(e7 c)
 let C:∀b o,s.heap.get? b=ac o->m.get? b=ac o:=λb o e=>y b o<|eJ _ e;$(fj {adV vL _,?_});$(IK (knd:=knd) (by simp[hh]) (gk<|aaA q f) (gk f) (aby q) J L items.size 0 _ ⋯ (rp _) {_,g8 _ ρ,ρ,ρ} (t.push _) ?_ ?_ ?_ _ _)
 .$(v.push _)
 .ext j u n N D;let(a,k,p):=M j u n N D;let G:=let⟨_,c,_⟩:=p.U;e7 c
  $({a,k,{p.at_,?_,p.key},gk<|aaA G f,gk G});let(o,c,r):=p.U;$({o,eJ _<|C _ _ c,r})
 ext h' H I O;$({ρ,h h' H I λb o e=>O b o ?_ ?_<|eJ _<|C _ _ e})
 .$(gk<|aaA (e7 e) f)
 $(gk<|e7 e)
end
end
section
variable{X:Cx}{pins:List (cA×ua)}{σ:St}{H:Hp}{s:dq}{pos:q7}
def ng(K:e6)(H:Hp)(r:V)(b:Key×V):Prop:=∃a,r=.ref a/\bj K H a [kV b.1,b.2]
theorem Rt(I:Inv X pins σ H s)(c:aH rows its)(b:aao (ng X.K H) rows kvs):∃more:List (Key×bt),KV kvs more/\aao (λu d=>∃a k,zC (cU X.prog X.w) s.heap u d a k) its more:=by
 induction c generalizing kvs with
 |nil=>$$$b;$({[],.nil,.nil})
 |cons e _ f =>
  cases b with
  |cons g b =>
   let(more,h,i):=f b;let(a,rfl,j):=g;$$e;let(its',l,U,_):=I.tuple j;cases l with
   |cons m n =>
    cases n with
    |cons o p =>
     $$$p;ext1 k v;$({(_,v)::more,.cons ⟨ρ,o⟩ h,.cons {a,k,ρ,by$$$$U,o8 m} i})
theorem HK (p:aao F l₁ l₂):∀(j:Nat) a b,l₁[j]?=ac a->l₂[j]?=ac b->F a b:=by
 induction p with
 |nil=>ext j a b h;simp at h
 |cons hf _ e =>
  ext j a b h h';cases j with
  |zero=>simp!
  |succ j=>$(e j a b (by$$$$h) (by$$$$h'))
theorem vq (p:aao F l₁ l₂):l₁.length=l₂.length:=by
 induction p with
 |nil=>rfl
 |cons _ _ c=>$(congrArg (·+1) c)
def Dw(K:e6):List V->Hp->VK->Prop:=λxs H Q=>∃p rows kvs,xs=[.ref p]/\Rd H p (.L rows)/\aao (ng K H) rows kvs/\∀q,H q=al->Q (.ref q) (upd H q<|.dK<|lI [] kvs)
def OP(te:TE):TI:=λσ H R=>te σ H λv a=>∃d o kvs,v=.ref d/\a d=ac (.aZ o<|.dK kvs)/\R (Dd d o kvs) a
def S7 (m:PE X e te):PI X l e (OP te):=by$(λpins s σ H R I h=>aF (m pins s σ H _ I h) λv a g=>?_);let(y,H1,c,n,p):=g;let(d,o,kvs,rfl,hd,q):=p;$$n;let(i,z,lo,vs,r,j):=c.aj d _ hd;let(ep,D):=j.dictAt;let(o',t,f,g):=id D;rw[i]at f;$$$$$$f;let u:∀h:k7,h.get? d=ac o->h.DictAt (cU X.prog X.w) d vs ep:=λh e=>⟨o,t,e,g⟩;$(wpAny_pyIter_dict lo D {a.heap.objs.size,[a.heap.objs.size],_,_,_,ρ,c.kept λb o e=>eJ _ e,VH r (gk<|e7 i) u,{_,g8 _ ρ,ρ,ρ},λb x=>?_,q});rw[show b=a.heap.objs.size by$$$$x];$(c.kB (eS _)<|c.aj.fresh<|eS _)
def mF:List Dat->Option (List<|ew×Dat)
 |[]=>ac []
 |.U [.str k,d]::r=>(mF r).map λa=>(k,d)::a
 |_=>al
def tN:List Dat->Option Res
 |[.cg a]=>ac (.O<|.cg a)
 |[.L ds]=>(mF ds).bind λa=>if(a.map (·.1)).Nodup then ac (.O<|.cg a)else al
 |_=>al
theorem ER{K:e6}{H:Hp}:∀{ds:List Dat}{vs:List V}{b:List (ew×Dat)},mF ds=ac b->aw K H ds vs->∃kvs,bN K H b kvs/\aao (ng K H) vs kvs
 |[],_,_,e,r=>by$$$$$$e;cases(r);$({[],ρ,.nil})
 | d::ds,_,_,e,r=>by
  unfold mF at e;$$$$$e;simp!
  .ext1 k d' r' h;$$$h;let(b,f,e):=oM e;$$$$$$e;let(v,vr,rfl,(a,ws,rfl,g,rs),i):=r;let(kvs,j,l):=ER f i;let(v1,r1,rfl,m,c,r2,rfl,n,o):=rs;$$m;cases(o);$({(px k,c)::kvs,⟨c,kvs,ρ,n,j⟩,.cons ⟨a,ρ,g⟩ l})
  $(nO e)
def ng.mono{K:e6}{H b:Hp}(s:af H b){vs:List V}{kvs:List (Key×V)}(h:aao (ng K H) vs kvs):aao (ng K b) vs kvs:=Paired.qZ h λ_ _ ⟨a,e,q⟩=>{a,e,bj.mono s q}
def IH:CD X (λxs H Q=>(λxs H Q=>∃a kvs,xs=[.ref a]/\Rd H a (.dK kvs)/\∀p,H p=al->Q (.ref p) (upd H p<|.dK kvs)) xs H Q\/Dw X.K xs H Q) tN:=by
 ext g ps Z σ H c vs ds o Q e S r k;delta tN at e;$$$$$e
 .ext1 d;$(ι<|J7 g ps Z σ H c vs [.cg d] o Q e S r k)
 .let(d,i,e):=oA e;$$$$$e
  .ext1 nd;$$$$$$e;let(v,vr,rfl,(p,j,rfl,rd,rs),l):=r;$$l;let(kvs,f,m):=ER i rs;let n:(kvs.map (·.1)).Nodup:=by rw[uG f];$(hF.2 (nd.imp λh z=>h<|Sum.inr.inj z))
   $(τ {p,j,kvs,ρ,Rd.mono S.sub rd,ng.mono S.sub m,λq b=>?_});simp[Gh kvs [] (by$$$$n),List.nil_append];$(k (.ref q) _ c (S.made b) (af.refl _) {q,ρ,{kvs,bw,f,S.dP b},(S.bU b).2,(S.bU b).1,S.eM b})
  $(nO e)
 $(nO e)
def Ls (a:X.calm=bd)(b:Gl X "dict")(c:X.mg "dict"=al)(d:bI X e [])(f:DA X [e] fa):DE X (.Call (.Name "dict" p) [e] [] pos) (cE tN fa):=pO (bP.or VO ((λf=>by
  ext pins s σ H xs us Q I r h;let(p,rows,kvs,rfl,rd,c,q):=h;let(u,rfl,g):=r.one;$$g;let(z,its,n,i,d):=rd.ok I.aj;let(more,b,pm):=Rt I i c;let k:=vq pm;let e2:=vq b;let e3:=vq c;let l:(lI [] kvs).length<=sizeLine:=by let:=BM kvs [];simp at this;$_
  $(NX (I.ok.hd f) {_,d,ρ,n,ρ} (λo e=>by rw[d]at e;$$$$$$e;rfl) (by simp[k]) ∅ (λj u b m t=>HK pm j u b (by$$$$m) t) λh' tk dd kp=>?_)
  $({.ref s.heap.objs.size,_,I.laid kp (eS _)<|zV l (beq_eq_false_iff_ne.2<|Ne.symm<|gk I.Ah) (b.merge .nil) dd,ρ,q _<|I.aj.fresh<|eS _})) a)) IH b c (by decide +kernel) f ⋯ ρ d ρ
def Ej(i:Nat):IF:=λZ=>match Z[i]? with
 |some (.D<|.eQ a)=>ac (a.map λk=>.str k.1,Z)
 |_=>al
theorem Tb (hx:lC x)(u:X.N.findIdx? (·==x)=ac i)(w:cw X.env.scope x)(hd:bM x)(h:cT x):dv X r (.Name x t) (Ej i):=by
 refine{_,S7<|eX (d6 u) w hd h,λH0 ps Z σ H Hi items Z' R b S k=>?_};unfold Ej at b;$$$$$b
 .ext1 l e;let(rfl,rfl):=sP b;let(v,z,p,o,kvs,rfl,f,g):=S.D i _ e;$({_,z,p,o,kvs,ρ,S.sub _ _ f,k _ _ _ S (af.refl _) λj H2 m=>{λd c=>?_,λn=>{m _ _ f,?_}}})
  .let A:j<l.length:=by let:=(bg.1 c).1;$$$$this
   refine{{m _ _ f,by rw[bN.length g];$A},λv H3 B=>ι ?_};let(rfl,C,xx,D,rfl):=B;$({ρ,?_});let a:(kvs.map (·.1))[j]?=ac C:=by rw[ee,D];rfl
   simp?[uG g,ee]at a;rw[ee]at c;cases q:l[j]? with
   |none=>rw[q]at a;$(nO a)
   |some y=>rw[q]at a c;$$$$$$a;$$$$$$c;rfl
  let hl':=bN.length g;simp!
 exact nO b
end
section
open Sem (wp)
structure oS (h:k7) (d:cA) (es:Array aaT) (ep:Nat):Prop where
 ok:∃o,h.get? d=ac o/\o.ExactDict/\o.data=.dict es ep
section
variable{prog:hE}{w:iR}{A:nL}{E:bt->dq->Prop}{s:dq}
def oS.ty (h:oS s.heap d c ep):s.TypeIs (.ref d) "dict":=let⟨o,a,b,_⟩:=h.ok;⟨o,a,b.1⟩
def QE (hd:(d==Hz)=bi)(r:oS s.heap d a ep)(q:Q (.ref s.heap.objs.size) {s with heap:=s.heap.push {cls:=.type "dict_keyiterator",data:=.fields #[.ref d,.int 0 0,.int a.size 0,.int ep 0]} }):gW (hJ prog w) A (ae5<|.ref d) Q E s:=by let ty:=r.ty;let(o,b,e2,c):=r.ok;$(wpAny_pyIter_slot ty ae9<|ub ae9 ty F.entry_dict_iter ?z<|F.args_dict_iter_1 _);delta aaZ.«dict.__iter__» afT;$(cn<|cn<|aez ty ?B);$(fj ?C);$(show gW _ _ (acF d >>= _) _ _ s from ?D);delta acF;rw[if_neg (by simp!)];$(cn<|fj<|cn<|abn b c<|cn<|adj b c<|cn<|yv<|fj ⟨_,ρ,"dict_keyiterator",_,⟨_,g8 _ ρ,ρ⟩,wt.lookup,?G⟩);simpa[aeh]using q
def Tc (hit:s.heap.IsKeyIter it d i a.size ep)(r:oS s.heap d a ep)(f:i<a.size)(q:∀h',h'.IsKeyIter it d (i+1) a.size ep->aaX it s.heap h'->Q (ac a[i].key) {s with heap:=h'}):gW (hJ prog w) A (abQ<|.ref it) Q E s:=by
 let ty:=hit.typeIs;let(x,e,j,b):=id hit;let(o,g,e2,h):=r.ok;let O:abp "dict_keyiterator"=bi:=ρ;$(cn<|agf<|aaC ty wt<|ub wt ty acX ?z<|acS _);$(cn<|fj<|cn<|cn ?D)
 first|$(cn (XP ty<|fj ?B))|$(cn<|aav ty<|fj ?B)
 $(cn<|af4 e b ?G);$(?H);$(cn<|fj<|cn<|abn g h ?I);rw[if_neg ⋯];$(cn<|fj<|cn<|adj g h ?J);rw[if_neg ⋯];$(fj ?K);simp[nq f];$(cn ?L)
 first|$(cn (XP ty<|fj ?C))|$(cn<|aav ty<|fj ?C)
 $(cn<|aeA ty ?M);$(show gW _ _ (setField (.ref it) 1 (aeh<|(i:Int)+1) >>= _) _ _ s from cn<|af3 e b ⋯ ?N);let c:(s.heap.update it (afn (·.setIfInBounds 1 (aeh<|(i:Int)+1)))).IsKeyIter it d (i+1) a.size ep:={_,adB _ e<|Obj.isFreed_of_fields<|aeo b _,(Obj.cls_mapFields ..).trans j,by rw[aeo b];simp[aeh]};$(cn<|pA<|cn<|aeA c.typeIs ?O);$(fj<|fj ⟨_,ρ,fj<|q _ c<|acQ ..⟩)
def Pu (hh:A.handled=al)(hit:s.heap.IsKeyIter it d i c.size ep)(r:oS s.heap d c ep)(e:c.size<=i)(q:∀h',Heap.ExtBut it s.heap h'->Q al {s with heap:=h'}):gW (hJ prog w) A (abQ<|.ref it) Q E s:=by
 let ty:=hit.typeIs;let(x,f,x2,g):=id hit;let(o,h,e2,j):=r.ok;let O:abp "dict_keyiterator"=bi:=⋯;$$(abQ);$(cn<|agf<|aaC ty wt<|ub wt ty acX ?z<|acS _);$(cn<|fj<|cn<|cn ?D)
 first|$(cn (XP ty<|fj ?B))|$(cn<|aav ty<|fj ?B)
 $(cn<|af4 f g ?G);$(show gW _ _ (if(DU d==Value.none)=bd then _ else _) _ _ s from ?H);$(cn<|fj<|cn<|abn h j ?I);rw[if_neg ⋯];$(cn<|fj<|cn<|adj h j ?J);rw[if_neg ⋯];$(fj ?K);simp[adq e];$(cn ?L)
 first|$(cn (XP ty<|fj ?C))|$(cn<|aav ty<|fj ?C)
 $(show gW _ _ (setField (.ref it) 0 .none >>= _) _ _ s from cn<|af3 f g ⋯ ?M);$(cn ?N);$(cn<|yv (cn<|wpAny_of_eq (a:=Value.none) ρ<|yv ?O (by size_fits)) (by size_fits));dsimp[raiseNew];$(cn<|wpAny_handled ?P);rw[show A.in1.handled=al from hh];$(cn<|fj<|wpAny_throw ?R);$(cn<|wpAny_isInstance ⟨_,g8 _ ρ,ρ⟩ isSubtype_stop<|fj<|q _<|((acQ ..).extBut.push _).push _)
def VV (hd:(d==Hz)=bi)(r:oS s.heap d a ep)(hz:(a.size:Int)<2 ^ 63)(q:∀t t',Q (.int a.size t) {s with toks:=t'}):gW (hJ prog w) A (call (.builtin "len") [.ref d]) Q E s:=by let ty:=r.ty;let(o,b,e2,c):=r.ok;$(aa8 kind_len plain_len entry_len (args_len1 _) ?z);delta aaZ.«len»;$(cn<|fj<|cn<|aaC ty afq<|ub afq ty F.entry_dict_len ?B<|F.args_dict_len_1 _);$(show gW _ _ (dictSize d >>= _) _ _ s from ?C);$(cn<|cn<|abn b c<|fj ?D);$(cn<|wpAny_pendingCount_other hd<|wpAny_ret_mkInt ?G);$(cn<|pA<|fj<|cn<|wpAny_letGo ?H);$(?I);$(show gW _ _ (if((a.size:Nat):Int) ≥ 2 ^ 63 then _ else _) _ _ _ from ?J);rw[if_neg (by lia)];$(cn<|wpAny_mkInt<|fj ⟨_,ρ,q _ _⟩)
end
end
def x5(d:cA)(o:ua)(kvs:List (List Key×V))(bs:List cA):It:=⟨λi H=>H d=ac (.aZ o<|.dT kvs)/\i<kvs.length,λi H v a=>a=H/\∃b,bs[i]?=ac b/\v=.ref b,λi H=>H d=ac (.aZ o<|.dT kvs)/\kvs.length<=i⟩
def mO(H:Hp)(kvs:List (List Key×V))(bs:List cA):Prop:=aao (λa b=>H b=ac (.U<|a.1.map kV)) kvs bs
def KeysIn(a:Array aaT)(bs:List cA):Prop:=∀(i:Nat) (hi:i<a.size),∃b,bs[i]?=ac b/\a[i].key=.ref b
section
variable{P:hE}{w:iR}{H:Hp}{h:k7}{d:cA}{X:Cx}{K:e6}{pos:q7}{H0:Hp×Hp}{Hi:Hp}{ps:Nat->Option cA}{Z:DS}{σ:St}
theorem tL (x:cN P w H h d (.dT kvs)):∃a ep o bs,h.get? d=ac o/\o.ExactDict/\o.data=.dict a ep/\a.size=kvs.length/\mO H kvs bs/\KeysIn a bs:=by
 let(_,_,xs,b,o,a,ep,f,g,j,c,h5):=x;let k:a.size=xs.length:=by$$$$(congrArg List.length c)
 let l:∀{kvs:List (List Key×V)}{xs:List (List Key×cA×bt)},aao (λ(p:List Key×V) (q:List Key×cA×bt)=>p.1=q.1/\H q.2.1=ac (.U<|p.1.map kV)/\RelV p.2 q.2.2) kvs xs->mO H kvs (xs.map λx=>x.2.1):=λb=>by
  induction b with
  |nil=>$(.nil)
  |cons h _ m=>$(.cons h.2.1 m)
 $({a,ep,o,xs.map λx=>x.2.1,f,g,j,by simp?[k,vq b],l b,λi hi=>?_});let hx:xs[i]?=ac xs[i]:=b8 ⋯;let e:a.toList[i]?=ac a[i]:=by simp[hi]
 simp?[c,ee,hx]at e;$({xs[i].2.1,by rw[ee,hx];rfl,?_});rw[<-Option.some.inj e];rfl
def MN (J:l.size=n)(hne:d≠it)(m:o.data=.dict l ep)(a:KeysIn l bs) :
  Turn P w K R (x5 d o kvs bs) [it] it (λi h=>h.IsKeyIter it d i n ep) where
 mem:=⋯
 obj:=λi h st b a=>by
  let e:b=it:=by$$$$a
  $$e;let(o,e,c,d):=st;$({o,e,λv z=>by rw[d]at z;lk})
 keep:=λi h h' st k=>by let(o,e,c,d):=st;$({o,k it ⋯ o e,c,d})
 item:=by
  ext X t hw u L i f s σ H E I p st x;subst t hw u J;let(y,A,S,B,C,D):=p it ⋯;let(hd,hi):=x;let(g,ok):=I.aj d _ hd;let(M,N,O,Q,j,F,g3,T,_,_):=tL ok;rw[g]at j;$$$j;rw[m]at g3;$$$g3;let q:i<l.size:=∅
  $(Tc st ⟨o,g,F,m⟩ q λh' r U=>?_);let Y:Inv X f σ H {s with heap:=h',toks:=s.toks}:=I.turned (λb o a e=>(U.2 b a).trans e) y A B C D;let(b,tb,G):=a i q;let(O,e,c,dd):=id r;$({_,ρ,p9 e c dd ρ {.ref b,H,Y,by rw[G];rfl,⟨ρ,b,tb,ρ⟩,r,λb a=>(p b a).1}})
 done:=by ext X t hw u L i f s σ H E I p st x;subst t hw u J;let(y,A,S,B,C,D):=p it ⋯;let(hd,hi):=x;let(g,ok):=I.aj d _ hd;let(M,N,O,Q,j,F,g3,T,_,_):=tL ok;rw[g]at j;$$$j;rw[m]at g3;$$$g3;$(Pu (I.ok.hd L) st ⟨o,g,F,m⟩ (by lia) λh' G=>{ρ,I.turned (λb o a e=>G b o a e) y A B C D})
 self:=λ_ _ _ _ _ st h=>aeI st h
def Inv.NO (I:Inv X f σ H s)(e:H d=ac (.dT kvs))(j:s.heap.get? d=ac o):Inv X f σ (upd H d<|.aZ o<|.dT kvs) s:=by
  let g:∀b u,H b=ac u->u≠.dT kvs->b≠d:=by lia
  let un:Un X.fs [] H (upd H d<|.aZ o<|.dT kvs) s.heap s.heap :=
    ⟨λb a q _ _ _=>q,λb a q _ _ _=>⟨a.slots,q⟩,λb a q n _=>by rw[aA (λz=>by simp!)];$n,λb a q _=>⟨a,q⟩,
     λb xs q=>by rw[aA (g b _ q ⋯)];$q,λb a u q=>by rw[aA (g b _ q ⋯)];$q,λb ps q=>{#[],by rw[aA (g b _ q ⋯),q];simp}⟩
  let st:∀b u,cN X.prog X.w H s.heap b u->cN X.prog X.w (upd H d<|.aZ o<|.dT kvs) s.heap b u:=λb u x =>
    x.hX (λc v _ q=>q) (λc q=>by rw[aA (g c _ q ⋯)];$q) λc xs q=>by rw[aA (g c _ q ⋯)];$q
  let aj:ck X.prog X.w (upd H d<|.aZ o<|.dT kvs) s.heap:=λb u q=>by
    ext(i:b=d)
    · $$i;rw[bw]at q;$$$$$$q;$({j,st _ _<|I.aj _ _ e})
    rw[aA i]at q;$(st _ _<|I.aj b u q)
  $(I.un un aj)
def SX(te:TE):TI:=λσ H R=>te σ H λv a=>∃d kvs,v=.ref d/\a d=ac (.dT kvs)/\∀o bs,mO a kvs bs->R (x5 d o kvs bs) (upd a d<|.aZ o<|.dT kvs)
def Gc (l:PE X e te):PI X k e (SX te):=by$(λc s σ H R I h=>aF (l c s σ H _ I h) λv a g=>?_);let(y,H1,i,m,n):=g;let(d,kvs,rfl,hd,q):=n;$$m;let ok:=i.aj d _ hd;let(es,ep,o,bs,f,p,g3,g4,r,t):=tL ok;let j:=e7 f;let g:=i.NO hd f;$(QE ok.2.1 ⟨o,f,p,g3⟩ {a.heap.objs.size,[a.heap.objs.size],_,_,_,ρ,g.kept λb o e=>eJ _ e,MN ρ (gk j) g3 t,{_,g8 _ ρ,ρ,ρ},λb u=>?_,q o bs r});simp[show b=a.heap.objs.size by$$$$u];$(g.kB (eS _)<|g.aj.fresh<|eS _)
abbrev gf:=List<|List ew×Dat
def fM(a:gf)(k:List ew):Option Dat:=(a.find? λp=>am<|p.1=k).map (·.2)
def rF(a:gf)(k:List ew)(d:Dat):gf:=if(fM a k).isSome=bd then a.map (λp=>if p.1=k then(p.1,d)else p)else a++[(k,d)]
def kT(k:List ew):List Key:=k.map px
theorem FH:kT a=kT b↔a=b:=by
 delta kT;constructor
 .ext h;induction a generalizing b with
  |nil=>simp!
  | cons x a c=>cases b with
   |nil=>lk
   |cons y b=>let(e,f):=List.cons.inj h;rw[Sum.inr.inj e,c f]
 ext h;rw[h]
def Ab(k):(kT k).map kV=k.map V.str:=by delta kT;rw[fm];rfl
theorem bW.length:∀{a:gf}{kvs:List (List Key×V)},bW K H a kvs->kvs.length=a.length
 |[],_,h=>by rw[show _=[]from h];rfl
 |(_,_)::_,_,b=>by let(v,r,e,q,t):=b;simp?[e,fq,fq,bW.length t]
theorem bW.find:∀{c:gf}{kvs:List (List Key×V)}(k:List ew),bW K H c kvs->(∀d,fM c k=ac d->∃v,fL kvs (kT k)=ac v/\Rep K H d v)/\(fM c k=al->fL kvs (kT k)=al)
 |[],_,k,h=>by rw[show _=[]from h];$({λd z=>by simp[fM]at z,λ_=>rfl})
 | (f,d')::c,_,k,j=>by
  let(v,r,e,q,t):=j;rw[show _=(kT f,v)::r from e];let(a,b):=bW.find k t;ext(g:f=k)
  .$$g;let i:fM ((f,d')::c) f=ac d':=by simp[fM]
   rw[i,qL ρ];$({λd z=>{v,ρ,by$$$$$$z;$q},λz=>by lk})
  let i:fM ((f,d')::c) k=fM c k:=by simp[fM,g]
  rw[i,rl<|λz=>g<|FH.1 z];$(⟨a,b⟩)
theorem bW.has (k:List ew)(h:bW K H c kvs):(fL kvs<|kT k).isSome=(fM c k).isSome:=by
 let(a,b):=h.find k;cases e:fM c k with
 |none=>rw[b e];rfl
 |some d=>let(v,f,_):=a d e;rw[f];rfl
theorem bW.jf:∀{a:gf}{kvs:List (List Key×V)}(k:List ew) {d:Dat}{v:V},bW K H a kvs->Rep K H d v->bW K H (a.map λp=>if p.1=k then(p.1,d)else p) (kvs.map λp=>if p.1=kT k then(p.1,v)else p)
 |[],_,k,_,_,h,_=>by simp?[show _=[]from h];$ρ
 | (b,d')::a,_,k,d,v,g,c=>by
  let(w,r,e,q,t):=g;rw[show _=(kT b,w)::r from e,fR,fR];ext(f:b=k)
  .$$f;rw[if_pos ρ,if_pos ρ];$({v,_,ρ,c,bW.jf b t c})
  rw[if_neg f,if_neg<|λz=>f<|FH.1 z];$({w,_,ρ,q,bW.jf k t c})
theorem bW.snoc:∀{b:gf}{kvs:List (List Key×V)}(k:List ew) {d:Dat}{v:V},bW K H b kvs->Rep K H d v->bW K H (b++[(k,d)]) (kvs++[(kT k,v)])
 |[],_,k,_,v,h,a=>by rw[show _=[]from h];$({v,[],ρ,a,ρ})
 |(_,_)::_,_,k,_,_,c,a=>by let(w,r,e,q,t):=c;$({w,r++_,by rw[e];rfl,q,bW.snoc k t a})
def bW.put{a:gf}{kvs:List (List Key×V)}(k:List ew){d:Dat}{v:V}(h:bW K H a kvs)(b:Rep K H d v):bW K H (rF a k d) (putK kvs (kT k) v):=by
 delta rF putK;rw[vD,h.has k];split
 .$(h.jf k b)
 $(h.snoc k b)
theorem Dc:∀{a:gf}{kvs:List (List Key×V)},bW K H a kvs->kvs.map (·.1)=a.map λk=>kT k.1
 |[],_,h=>by rw[show _=[]from h];rfl
 |(_,_)::_,_,b=>by let(v,r,e,q,t):=b;simp?[e,fR,fR,Dc t];rfl
abbrev UF:=DS->Option (List ew×DS)
def ml(X:Cx)(e:fA)(f:UF):Prop:=∃t,PE X e t/\∀(H0:Hp×Hp) (ps:Nat->Option cA) (Z:DS) (σ:St) (H Hi:Hp) (l:List ew) (b:DS) (Q:VK),f Z=ac (l,b)->SR X.K H0 ps Z σ H Hi ->
 (∀p c a,SR X.K H0 ps b σ c a->af Hi a->a p=ac (.U<|(kT l).map kV)->Q (.ref p) c)->t σ H Q
def ya(f:AF):UF:=λZ=>(f Z).bind λp=>if p.1.length<=a9 then(d7 p.1).map λl=>(l,p.2)else al
def zU(f:AF):UF:=λZ=>(f Z).bind λp=>match p.1 with
 |[.L ds]=>(d7 ds).map λl=>(l,p.2)
 |_=>al
def L4 {c}(h:DA X a f):ml X (.Tuple a c pos) (ya f):=by
 let(t,p,q):=h;$({_,Hh p,λH0 ps Z σ H Hi l Z' Q e S k=>?_});let(ds,Z1,g,e):=oB e;$$$$$e
 .ext1 i;let(l',j,e):=oM e;let(rfl,rfl):=sP e;$(q H0 ps Z σ H Hi ds _ _ g S λvs H1 Hi1 m n b=>{by rw[b.length];$i,λp r=>?_});let(s,u):=m.laid r;apply k p _ _ s<|n.trans u;rw[bw,lO j b,Ab]
 exact nO e
def JK (g:Gl X "tuple")(i:X.mg "tuple"=al)(j:bI X e [])(m:DA X [e] fa):ml X (.Call (.Name "tuple" p) [e] [] pos) (zU fa):=by
 let(t,n,q):=m;$({_,zh HI g i (by decide +kernel) n ⋯ ρ j ρ,λH0 ps Z σ H Hi l Z' Q b S k=>?_});let(ds,Z1,r,b):=oB b;dsimp at b;$$$$$b
 .let(l',s,b):=oM b;let(rfl,rfl):=sP b;$(q H0 ps Z σ H Hi _ _ _ r S λvs H1 Hi1 c u x=>?_);let(v,vr,rfl,(a,f,rfl,rd,rs),y):=x;$$y;$({a,f,ρ,ι {ι<|Rd.mono c.sub rd,λp z=>?_}});let(A,B):=c.laid z;apply k p _ _ A<|u.trans B;rw[bw,lO s rs,Ab]
 exact nO b
def CG:EF:=λZ=>ac (.O<|.bA false [],Z)
def sY(i:Nat)(b:UF)(f:DF):SF:=λZ=>(f Z).bind λp=>((p.2[i]?).bind ownOf).bind λ_=>(b p.2).bind λq=>((q.2[i]?).bind ownOf).bind λs=>match s.2 with
 |.bA _ a=>if a.length<a9 then ac (.next<|q.2.set i<|kindAt s.1<|.bA false<|rF a q.1 p.1)else al
 |_=>al
def Lh (i:Nat)(J:X.A.units+1<r0)(L:X.N[i]?=ac x)(M:cw X.env.scope x)(h:DD X e f)(O:ml X g r)(hd:bM x:=by decide)(s:cT x:=by decide)(Q:um e (ac<|.Subscript (.Name x m) g pt) pos.line X.env=pure false:=by rfl):cH X (.Assign [.Subscript (.Name x m) g pt] e pos) (sY i r f):=by
 let(t,p,q):=h;let(tk,R,T):=O;$({_,HW J (eX L M hd s) R p Q,λH0 ps Z σ H Hi o D e S k=>?_});let(d,Z1,U,e):=oB e;let(b0,c0,V,e):=oB e;let(n,Z2,W,e):=oB e;let(io,c,u,e):=oB e;dsimp at e;$$$$$e
 .$$$$$e
  .ext1 Y;$$$$$$e;$(q H0 ps Z σ H Hi d Z1 _ U S λv H1 B C s1 r1=>?_);let(a,j,_):=C.at<|ky V;$({.ref a,j,T H0 ps Z1 σ H1 B _ Z2 _ W C λy H2 E l F r2=>?_});let(b,G,ob):=l.at<|ky u;rw[j]at G;$$$G;let(z,kvs,h1,I,h3):=ob;$({a,_,ρ,lQ.t h1 (l.sub _ _ r2) (by rw[bW.length I];$Y),?_});$(k σ _ E (l.write (ky u) j {ρ,_,bw,bW.put n I<|Rep.mono F r1,h3})<|s1.trans F)
  $(nO e)
 $(nO e)
theorem SR.share(S:SR K H0 ps Z σ H Hi)(e:H b=ac (.U vs)):∃f,SR K H0 ps Z σ H f/\af Hi f/\f b=ac (.U vs)/\∀q u,f q=ac u->Hi q=ac u\/∃vs,u=.U vs:=by
 cases z:Hi b with
 |some u=>let:=S.sub _ _ z;rw[e]at this;$$$$$$this;$({Hi,S,af.refl _,z,λ_ _ h=>ι h})
 |none =>
  let sm:af Hi (upd Hi b<|.U vs):=j6 z;let ne:∀{q:cA}{c:Dat},cC K H Hi q c->q≠b:=λh y=>by$$y;$(h.nt e)
  $({_,{Hr S.sub e,S.keep,S.eF,λi d h=>?_,λi c h=>?_,λi c h=>?_,S.ne,S.len,λq u h=>?_},sm,bw,λq u h=>?_})
  .let(v,a,r):=S.D i d h;$({v,a,Rep.mono sm r})
  .let(q,a,o,j,k):=S.O i c h;$({q,a,o.keeps ρ sm (by rw[aA (ne o)];$(o.some.2)),j,k})
  .let(q,a,o,j):=S.io i c h;$({q,a,o.keeps ρ sm (by rw[aA (ne o)];$(o.some.2)),j})
  .ext(g:q=b)
   .$$g;rw[bw]at h;$$$h;$(τ<|τ ⟨vs,ρ⟩)
   rw[aA g]at h;$(S.nw q u h)
  ext(g:q=b)
  .$$g;rw[bw]at h;$$$$$$h;$(τ ⟨vs,ρ⟩)
  rw[aA g]at h;$(ι h)
theorem SR.BJ (k:mO H kvs bs):∀{Hi:Hp},SR K H0 ps Z σ H Hi->∃a,SR K H0 ps Z σ H a/\af Hi a/\mO a kvs bs/\∀q u,a q=ac u->Hi q=ac u\/∃vs,u=.U vs:=by
 induction k with
 |nil=>$(λS=>{_,S,af.refl _,.nil,λ_ _ h=>ι h})
 |cons h _ c=>ext Hi S;let(H1,f,g,i,j):=S.share h;let(l,m,b,n,o):=c f;$({l,m,g.trans b,.cons (b _ _ i) n,λq u e=>(o q u e).elim (j q u) τ})
def SR.hold (S:SR K H0 ps Z σ H Hi)(e:Z[i]?=ac (.O c))(m:σ[i]?=ac (ac<|.ref p))(r:Rep K (upd Hi p o) d' (.ref p)):SR K H0 ps (Z.set i<|.D d') σ (upd H p o) (upd Hi p o)/\af Hi (upd Hi p o):=by
 let(p',l,B,nl,C):=S.O i _ e;rw[m]at l;$$$l;let t:=(bg.1 e).1;let sm:af Hi (upd Hi p o):=j6 B.some.2;let back:∀{j:Nat}{s:Slot},(Z.set i<|.D d')[j]?=ac s->(∀d,s≠.D d)->j≠i/\Z[j]?=ac s:=λ{j s} h D=>by
  ext(f:j=i)
  .$$f;rw[hY t]at h;$$$$$$h;cases D _ ρ
  rw[g0 (Ne.symm f)]at h;$(⟨f,h⟩)
 $({{zJ S.sub,λb u E F=>?_,λq x=>?_,λj d h=>?_,λj c h=>?_,λj c h=>?_,λj k c G q I J=>?_,by rw[kx];$S.len,λq u eq=>?_},sm})
 .rw[aA (λz=>by simp!)];$(S.keep b u E F)
 .let y:q≠p:=λz=>nl (z ▸ x);rw[aA y];$(S.eF q x)
 .ext(f:j=i);simp!;rw[g0 (Ne.symm f)]at h;let(v,a,b):=S.D j d h;$({v,a,b.mono sm})
 .let(f,h):=back h (by ext d z;lk);let(q,a,b,n,L):=S.O j c h;let g:q≠p:=λz=>f<|S.ne j i _ _ p (ι h) (ι e) (z ▸ a) m;$({q,a,b.keeps (aA g) sm (by rw[aA g];$(b.some.2)),n,L})
 .let(f,h):=back h (by ext d z;lk);let(q,a,b,n):=S.io j c h;let g:q≠p:=λz=>f<|S.ne j i _ _ p (τ h) (ι e) (z ▸ a) m;$({q,a,b.keeps (aA g) sm (by rw[aA g];$(b.some.2)),n})
 .let M:=I.imp (λz=>(back z ⋯).2) λz=>(back z ⋯).2;let N:=J.imp (λz=>(back z ⋯).2) λz=>(back z ⋯).2;$(S.ne j k c G q M N)
 ext(A:q=p)
 .$$A;$(τ<|ι C)
 rw[aA A]at eq;$(S.nw q u eq)
def SR.held (S:SR K H0 ps Z σ H Hi)(n:cC K H Hi p c)(nl:¬fY ps p)(r:H0.1 p=al)(nd:∀(i:Nat) (g:Dat),(Z[i]?=ac (.O g)\/Z[i]?=ac (.io g))->σ[i]?≠ac (ac<|.ref p)):SR K H0 ps Z σ (upd H p o) (upd Hi p o)/\af Hi (upd Hi p o):=by
 let sm:af Hi (upd Hi p o):=j6 n.some.2;$({{zJ S.sub,λb u s t=>?_,λq k=>?_,λj d h=>?_,λj c h=>?_,λj c h=>?_,S.ne,S.len,λq u eq=>?_},sm})
 .rw[aA (λz=>by simp!)];$(S.keep b u s t)
 .let l:q≠p:=λz=>nl (z ▸ k);rw[aA l];$(S.eF q k)
 .let(v,a,b):=S.D j d h;$({v,a,b.mono sm})
 .let(q,a,b,f,x):=S.O j c h;let e:q≠p:=λz=>nd j c (ι h) (z ▸ a);$({q,a,b.keeps (aA e) sm (by rw[aA e];$(b.some.2)),f,x})
 .let(q,a,b,f):=S.io j c h;let e:q≠p:=λz=>nd j c (τ h) (z ▸ a);$({q,a,b.keeps (aA e) sm (by rw[aA e];$(b.some.2)),f})
 ext(m:q=p)
 .$$m;$(τ<|ι r)
 rw[aA m]at eq;$(S.nw q u eq)
def jX(a:gf):List Dat:=a.map λk=>.U<|k.1.map .str
theorem Ca:∀l:List ew,aw K H (l.map .str) (l.map V.str)
 |[]=>rfl
 |x::l=>{_,_,ρ,ρ,Ca l}
def Ie (f:Hi p=ac (.aZ o<|.dT kvs))(g:bW K Hi a kvs)(kb:mO Hi kvs bs):JW K (x5 p o kvs bs) (jX a) Hi:=by
 ext j H2 i;let hl:=bW.length g;let lk:(jX a).length=a.length:=by$$(jX);rw[a8]
 $({λd c=>{{i _ _ f,?_},λv H3 n=>ι ?_},λh=>{i _ _ f,?_}})
 .let:=(bg.1 c).1;$_
 .let(rfl,b,q,rfl):=n;$({ρ,?_});let k:j<a.length:=by let:=(bg.1 c).1;$_
  let l:kvs[j]?=ac kvs[j]:=b8 ∅;let m:=HK kb j _ _ l q;let e:(kvs.map (·.1))[j]?=ac kvs[j].1:=by rw[ee,l];rfl
  simp?[Dc g,ee,b8 k]at e;let e:=Option.some.inj e;unfold jX at c;simp?[ee,b8 k]at c;$$$$$$c;rw[<-e,Ab]at m;$({b,_,ρ,bj.of m,Ca _})
 $_
def xJ(i:Nat):IF:=λZ=>match Z[i]? with
 |some (.O<|.bA _ a)=>ac (jX a,Z.set i<|.D<|.bA true a)
 |_=>al
def v7(f:EF):IF:=λZ=>(f Z).bind λp=>match p.1 with
 |.O (.bA _ a)=>ac (jX a,p.2)
 |_=>al
def nU(neg:Bool)(i:Nat)(b:UF):EF:=λZ=>(b Z).bind λq=>((q.2[i]?).bind jK).bind λc=>match c with
 |.bA _ a=>ac (.D<|.bl (if neg then !(fM a q.1).isSome else(fM a q.1).isSome),q.2)
 |_=>al
theorem FJ (t:Top K H Hi v (.bA fz a)):∃p kvs,v=.ref p/\Rd H p (.dT kvs)/\bW K Hi a kvs:=by
 let(p,o,kvs,e,b,c):=t;$({p,kvs,e,?_,c});cases fz with
 |false=>$(ι b)
 |true=>$(τ ⟨o,b⟩)
def xE (q:∀(H0:Hp×Hp) (ps:Nat->Option cA) (Z:DS) (σ:St) (H Hi:Hp) (l:List ew) (f:DS) (Q:VK),m Z=ac (l,f)->SR X.K H0 ps Z σ H Hi->(∀p g a,SR X.K H0 ps f σ g a->af Hi a->a p=ac (.U<|(kT l).map kV)->Q (.ref p) g)->tk σ H Q)(H0)(ps)(Z)(σ)(H Hi)(o)(f)(Q)(e:nU neg i m Z=ac (o,f))(S:SR X.K H0 ps Z σ H Hi)(k:∀v g a,SR X.K H0 ps f σ g a->af Hi a->RR X.K H0 ps f σ g a v o->Q v g):nY (oX neg) tk (lV i) σ H Q:=by
 let(l,Z1,r,e):=oB e;dsimp at e;let(c,s,e):=oA e;$$$$$e
 .let(rfl,rfl):=sP e;$(q H0 ps Z σ H Hi _ _ _ r S λb u n j x tb=>?_);let(v,y,t):=j.peek s;let(p,kvs,rfl,rd,z):=FJ t;$({_,y,p,_,ρ,τ {kvs,kT l,b,rd,ρ,j.sub _ _ tb,ρ},?_});rw[z.has l];$(k _ u n j x ρ)
 $(nO e)
def K8 (f:X.A.units+1<r0)(g:X.N.findIdx? (·==x)=ac i)(j:cw X.env.scope x)(hd:bM x)(e:cT x)(k:tm .In (.Name x b)=bi)(l:ml X a c):DE X (.Compare a [.In] [.Name x b] pos) (nU false i c):=by let(t,p,q):=l;$({_,Fq (xS f) p (eX (d6 g) j hd e) k,xE q})
def FR (q:∀(H0:Hp×Hp) (ps:Nat->Option cA) (Z:DS) (σ:St) (H Hi:Hp) (o:Res) (e:DS) (Q:VK),f Z=ac (o,e)->SR X.K H0 ps Z σ H Hi->(∀v g a,SR X.K H0 ps e σ g a->af Hi a->RR X.K H0 ps e σ g a v o->Q v g)->t σ H Q)(H0)(ps)(Z)(σ)(H Hi)(c)(e)(Q)(b:e9 f Z=ac (c,e))(S:SR X.K H0 ps Z σ H Hi)(k:∀g a,SR X.K H0 ps e σ g a->af Hi a->Q c g):yj t σ H Q:=by
 let(r,Z1,j,b):=oB b;dsimp at b;$$$$$b
 .let(rfl,rfl):=sP b;$(q H0 ps Z σ H Hi _ _ _ j S λv l i m n p=>?_);$({_,p,k l i m n})
 $(nO b)
def Ky (f:X.A.units+1<r0)(g:X.N.findIdx? (·==x)=ac i)(j:cw X.env.scope x)(hd:bM x)(e:cT x)(k:tm .In (.Name x b)=bi)(l:ml X a c):DT X (.Compare a [.In] [.Name x b] pos) (e9<|nU false i c):=by let(t,p,q):=l;$({_,xg (xS f) p (eX (d6 g) j hd e) k,FR<|xE q})
def SK (f:X.A.units+1<r0)(g:X.N.findIdx? (·==x)=ac i)(j:cw X.env.scope x)(hd:bM x)(e:cT x)(k:tm .NotIn (.Name x b)=bi)(l:ml X a c):DT X (.Compare a [.NotIn] [.Name x b] pos) (e9<|nU true i c):=by let(t,p,q):=l;$({_,xg (BE f) p (eX (d6 g) j hd e) k,FR<|xE q})
def zg:List Dat->Option Res
 |[.bA _ a]=>ac (.D<|.int (a.length:Int))
 |ds=>pM ds
def Nk:CD X (λxs H Q=>yA X.K xs H Q\/(λxs H Q=>∃a kvs,xs=[V.ref a]/\Rd H a (.dT kvs)/\Q (.int kvs.length) H) xs H Q) zg:=by
 ext H0 ps Z σ H Hi vs ds o Q e S r k;delta zg at e;$$$$$e
 .obtain rfl:=sO e;let(v,vr,rfl,b,c):=r;$$c;let(p,kvs,rfl,rd,f):=FJ<|b.top S.sub;$(τ {p,kvs,ρ,rd,?_});apply k _ H Hi S<|af.refl _;show V.int _=V.int _;rw[bW.length f]
 exact ι<|Gx H0 ps Z σ H Hi vs ds o Q e S r k
def Mg (a:Gl X "len")(b:X.mg "len"=al)(c:bI X e [])(f:DA X [e] fa):DE X (.Call (.Name "len" p) [e] [] pos) (cE zg fa):=iE (bP.or zZ (by
  ext pins s σ H xs us Q I r h;let(a,kvs,rfl,c,q):=h;let(u,rfl,e):=vals1 r;$$e;let ok:=yn I.aj c;let z:=ok.1;let(es,ep,o,bs,f,g,g3,b,g5,g6):=tL ok;$(VV ok.2.1 ⟨o,f,g,g3⟩ (by rw[b];simp?[vi]at z;lia) λt t'=>?_)
  rw[b];$({.int kvs.length,H,I.tok _,⟨t,ρ⟩,q}))) Nk a b abL f ⋯ ρ c ρ
def M1 (j:X.N.findIdx? (·==x)=ac i)(k:cw X.env.scope x)(l:X.A.units+1<r0)(hd:bM x)(g:cT x)(m:um e (ac<|.Subscript (.Name x b) a pt) pos.line X.env=pure false)(h:DD X e f)(n:ml X a c):cH X (.Assign [.Subscript (.Name x b) a pt] e pos) (sY i c f):=Lh i l (d6 j) k h n hd g m
structure m8 (x:ew):Prop where
 ok:True
def T9 (ht:m8 x)(b:X.N.Nodup)(hi:X.N.findIdx? (·==x)=ac i)(hx:Loc X.env.scope x)(c:X.fn x=bd\/X.env.scope.names.lookup x=some .local)(e:um (.Dict [] [] p) (ac<|.Name x a) pos.line X.env=pure false):cH X (.Assign [.Name x a] (.Dict [] [] p) pos) (gK i CG):=Bg b hi hx c e (by
  $({_,Pn,λH0 ps Z σ H Hi r Z' Q b S k=>?_})
  let(rfl,rfl):=sP b;$(λl a=>k (.ref l) _ Hi (S.made a) (af.refl _) {l,ρ,{ρ,_,bw,ρ,S.dP a},(S.bU a).2,(S.bU a).1,S.eM a}))
end
def BN(a b:cA):It:=⟨λi H=>∃xs ys x y,Rd H a (.L xs)/\Rd H b (.L ys)/\xs[i]?=ac x/\ys[i]?=ac y,λi H v c=>∃p x y,H p=al/\v=.ref p/\c=upd H p (.U [x,y])/\(∀xs,Rd H a (.L xs)->xs[i]?=ac x)/\∀ys,Rd H b (.L ys)->ys[i]?=ac y,λi H=>∃xs ys,Rd H a (.L xs)/\Rd H b (.L ys)/\(xs.length<=i\/ys.length<=i)⟩
def Qm{P:hE}{w:iR}{K:e6}{elts:List fA}{x1:Nat}{Y:q7}{a b z TI TO g j:cA}(D:ZipApart z TI TO g j a b) :
  Turn P w K (.Tuple elts x1 Y) (BN a b) [z,TI,TO,g,j] z (λi h=>IsZip h z TI TO .none/\IsPair h TI (.ref g) (.ref j)/\(∃u v,IsPair h TO u v)/\h.IsListIter g a i/\h.IsListIter j b i) where
 mem:=⋯
 obj:=λi h st c l=>by
  let(C,F,(u,v,J),(o1,Z,c1,d1),(o2,e2,c2,d2)):=st;simp at l;let rfl||rfl||rfl||rfl||rfl:=l
  .$({_,C,λv z=>by lk})
  .$({_,F,λv z=>by lk})
  .$({_,J,λv z=>by lk})
  .$({o1,Z,λv z=>by rw[d1]at z;lk})
  $({o2,e2,λv z=>by rw[d2]at z;lk})
 keep:=λi h h' st k=>{k z ⋯ _ st.1,k TI ⋯ _ st.2.1,st.2.2.1.imp λu e=>e.imp λv q=>k TO ⋯ _ q,st.2.2.2.1.at λo q=>k g ⋯ o q,st.2.2.2.2.at λo q=>k j ⋯ o q}
 item:=by
  ext X hP hw hK d i L s σ H E I G st hg;let(C,F,(u0,v0,J),T,U):=st;let(xs,ys,x,y,rd,N,hx,hy):=hg;let(_,its,n,rv,ea):=rd.ok I.aj;let(_,its',n',O,Q):=N.ok I.aj;let(u,hu,ru):=rv.get hx;let(V,Wg,Wh):=O.get hy;let p:=G z ⋯;let t:=G TO ⋯;let A:=G g ⋯;let B:=G j ⋯;let lt:∀{c:cA}{o:ua},s.heap.get? c=ac o->c≠s.heap.objs.size:=λe=>gk<|e7 e;$(wpAny_pyNext_zip_item D C F J T U {_,ea,ρ,n,ρ} {_,Q,ρ,n',ρ} (by$$$$hu) (by$$$$Wg) λh3 g1 g2 g3 g4 g5 g6 g7=>?_);$({_,ρ,wpAny_letOwnedTupleGo_zip g1 λR f1 M=>?_});let M:aaX z h3 R:=M;let fr:=I.aj.fresh<|eS _;let cG:∀c o,c≠z->c≠TO->c≠g->c≠j->s.heap.get? c=ac o->R.get? c=ac o:=λc o k1 k2 k3 k4 q=>(M.2 c k1).trans (g7 c o k1 k2 k3 k4 q);let ht:=(M.2 _<|Ne.symm<|lt C).trans g5;let f:∀{c:cA},c∉[z,TO,g,j]->c≠z/\c≠TO/\c≠g/\c≠j:=λ{c} h=>{λe=>h (by simp[e]),λe=>h (by simp[e]),λe=>h (by simp[e]),λe=>h (by simp[e])};let dZ:∀c w,H c=ac w->c≠z/\c≠TO/\c≠g/\c≠j:=λc w q=>{df q p.1,df q t.1,df q A.1,df q B.1};let S:∀c w,H c=ac w->c≠s.heap.objs.size:=λc w q=>df q fr;$({.ref s.heap.objs.size,upd H s.heap.objs.size<|.U [x,y],?_,ρ,⟨_,x,y,fr,ρ,ρ,λzs C=>by rw[C.Ag rd];$hx,λzs C=>by rw[C.Ag N];$hy⟩,⟨f1,?_,⟨u,V,(M.2 _ D.TOz).trans g2⟩,?_,?_⟩,λc l=>?_})
  .show Inv X L σ (upd H s.heap.objs.size<|.U [x,y]) {s with heap:=R,gens:=s.gens,drawn:=s.drawn,toks:=s.toks};$(Inv.step I (λb l=>?_) (λb o _ _ d q _=>cG b o (f d).1 (f d).2.1 (f d).2.2.1 (f d).2.2.2 q) (λb o _ _ d q _=>{o.slots,cG b o (f d).1 (f d).2.1 (f d).2.2.1 (f d).2.2.2 q})
    (λb o d q n=>by rw[aA (gk<|e7 q)];$n) (λb o d q=>{o,cG b o (f d).1 (f d).2.1 (f d).2.2.1 (f d).2.2.2 q}) (λb ys q=>by rw[aA (S b _ q)];$q) (λb ob w q=>by rw[aA (S b _ q)];$q)
    (λb ps q=>{#[],by rw[aA (S b _ q),q];simp}) (λm hm=>?_) (λb w q=>?_) I.bare)
   .simp at l;let rfl||rfl||rfl||rfl:=l
    .$(⟨p.2.2.2.1,p.2.1,p.2.2.2.2.1,p.2.2.2.2.2⟩)
    .$(⟨t.2.2.2.1,t.2.1,t.2.2.2.2.1,t.2.2.2.2.2⟩)
    .$(⟨A.2.2.2.1,A.2.1,A.2.2.2.2.1,A.2.2.2.2.2⟩)
    $(⟨B.2.2.2.1,B.2.1,B.2.2.2.2.1,B.2.2.2.2.2⟩)
   .let(o,es,ep,ho,r):=hm;$({o,es,ep,cG _ o (Ne.symm p.2.1) (Ne.symm t.2.1) (Ne.symm A.2.1) (Ne.symm B.2.1) ho,r})
   ext(l:b=s.heap.objs.size)
   .$$l;rw[bw]at q;$$$$$$q;$({by show 2<=a9;$$(a9);decide,[u,V],.cons ru<|.cons Wh .nil,_,ht,rfl,_,rfl})
   rw[aA l]at q;$((I.aj b w q).hX (λc v d r=>?_) (λc r=>by rw[aA (S c _ r)];$r) λc ys r=>by rw[aA (S c _ r)];$r)
   let rfl||d:=d
   .$(cG c v (dZ _ _ q).1 (dZ _ _ q).2.1 (dZ _ _ q).2.2.1 (dZ _ _ q).2.2.2 r)
   $(cG c v (dZ _ _ d).1 (dZ _ _ d).2.1 (dZ _ _ d).2.2.1 (dZ _ _ d).2.2.2 r)
  .$(cG TI _ D.TIz D.TITO D.TIi1 D.TIi2 F)
  .$(g3.at λo q=>(M.2 _ D.i1z).trans q)
  .$(g4.at λo q=>(M.2 _ D.i2z).trans q)
  let Wk:c≠s.heap.objs.size:=by
   let(o1,Z,_):=T;let(o2,e2,_):=U;simp at l;let rfl||rfl||rfl||rfl||rfl:=l
   .$(lt C)
   .$(lt F)
   .$(lt J)
   .$(lt Z)
   $(lt e2)
  rw[aA Wk];$((G c l).1)
 done:=by
  ext X hP hw hK d i L s σ H E I G st hg;let(C,F,(u0,v0,J),T,U):=st;let(xs,ys,rd,N,hl):=hg;let(_,its,n,rv,ea):=rd.ok I.aj;let(_,its',n',O,Q):=N.ok I.aj;let l1:=rv.length;let l2:=O.length;$(wpAny_pyNext_zip_end (I.ok.hd d) D C F J T U {_,ea,ρ,n,ρ} {_,Q,ρ,n',ρ} (hl.imp (λz=>by simp;lia) λz=>by simp;lia) λh' k=>?_);let p:=G z ⋯;let t:=G TO ⋯;let A:=G g ⋯;let B:=G j ⋯;let cG:∀c o,c≠z/\c≠TO/\c≠g/\c≠j->s.heap.get? c=ac o->h'.get? c=ac o:=λc o q e=>k c o q.1 q.2.1 q.2.2.1 q.2.2.2 e;let f:∀{c:cA},c∉[z,TO,g,j]->c≠z/\c≠TO/\c≠g/\c≠j:=λ{c} h=>{λe=>h (by simp[e]),λe=>h (by simp[e]),λe=>h (by simp[e]),λe=>h (by simp[e])};let dZ:∀c w,H c=ac w->c≠z/\c≠TO/\c≠g/\c≠j:=λc w q=>{df q p.1,df q t.1,df q A.1,df q B.1};$({ρ,?_});show Inv X L σ H {s with heap:=h',gens:=s.gens,drawn:=s.drawn,toks:=s.toks};$(Inv.step I (λb l=>?_) (λb o _ _ d q _=>cG b o (f d) q) (λb o _ _ d q _=>{o.slots,cG b o (f d) q})
   (λ_ _ _ _ n=>n) (λb o d q=>{o,cG b o (f d) q}) (λ_ _ q=>q) (λ_ _ _ q=>q) (λb ps q=>{#[],by rw[q];simp}) (λm hm=>?_) (λb w q=>?_) I.bare)
  .simp at l;let rfl||rfl||rfl||rfl:=l
   .$(⟨p.2.2.2.1,p.2.1,p.2.2.2.2.1,p.2.2.2.2.2⟩)
   .$(⟨t.2.2.2.1,t.2.1,t.2.2.2.2.1,t.2.2.2.2.2⟩)
   .$(⟨A.2.2.2.1,A.2.1,A.2.2.2.2.1,A.2.2.2.2.2⟩)
   $(⟨B.2.2.2.1,B.2.1,B.2.2.2.2.1,B.2.2.2.2.2⟩)
  .let(o,es,ep,ho,r):=hm;$({o,es,ep,cG _ o {Ne.symm p.2.1,Ne.symm t.2.1,Ne.symm A.2.1,Ne.symm B.2.1} ho,r})
  $((I.aj b w q).hX (λc v d r=>?_) (λc r=>r) λc ys r=>r);let rfl||d:=d
  .$(cG c v (dZ _ _ q) r)
  $(cG c v (dZ _ _ d) r)
 self:=λ_ _ _ _ _ st h=>afu st.1 h
section
variable{X:Cx}
def Rv:C' "zip"=ac (.type "zip"):=by decide +kernel
def SQ(d:TA):TI:=λe H R=>d e H λvs c=>∃a b xs ys,vs=[.ref a,.ref b]/\Rd c a (.L xs)/\Rd c b (.L ys)/\R (BN a b) c
def JH (x:Gl X "zip")(y:X.mg "zip"=al)(z:PA X [a,b] k)(A:bI X a [b])(l:(YP pos<|ma [b] X.env).any (·.1)=bi):PI X (.Tuple elts w i) (.Call (.Name "zip" p) [a,b] [] pos) (SQ k):=by
 $(λj s B H R I h=>Call_<|pK I x y Rv<|H9 (aF (z pos j s B H _ I h) λus d g=>?_) A l);let(vs,C,f,D,E):=g;let(a,b,xs,ys,rfl,rd,m,q):=E;let(u,u',rfl,F,o):=D.two;$$F;$$o;let(_,its,n,rv,e):=rd.ok f.aj;let(_,its',G,rv',r):=m.ok f.aj;$(call_zip_2 {_,e,ρ,n,ρ} {_,r,ρ,G,ρ} λh' t J K L M k6 N=>afu t ?_);$({_,[d.heap.objs.size+4,d.heap.objs.size+2,d.heap.objs.size+3,d.heap.objs.size,d.heap.objs.size+1],_,_,C,ρ,f.kept N,Qm<|zipApart_new (e7 e)<|e7 r,⟨t,J,⟨_,_,K⟩,L,M⟩,λc v=>?_,q});let g:d.heap.objs.size<=c:=by
  simp at v;let rfl||rfl||rfl||rfl||rfl:=v
  .$(abl _ _)
  .$(abl _ _)
  .$(abl _ _)
  .$(eS _)
  $(abl _ _)
 $(f.kB g<|f.aj.fresh g)
end
def oG(as bs:List Dat):List Dat:=(as.zip bs).map λp=>.U [p.1,p.2]
def wI(fa:AF):IF:=λZ=>(fa Z).bind λp=>match p.1 with
 |[.L as,.L bs]=>ac (oG as bs,p.2)
 |_=>al
section
variable{X:Cx}{pos:q7}{prog:hE}{w:iR}{A:nL}{E:bt->dq->Prop}{s:dq}
theorem Vk{elts:List fA}{K:Nat}{r p:q7}{a b:fA}{fa:AF}(L:Gl X "zip")(M:X.mg "zip"=al)(N:bI X a [b])(B:(YP pos<|ma [b] X.env).any (·.1)=bi)(O:DA X [a,b] fa):dv X (.Tuple elts K r) (.Call (.Name "zip" p) [a,b] [] pos) (wI fa):=by
 let(t,P,q):=O;$({_,JH L M P N B,λQ ps Z T H U items Z' R c S k=>?_});let(as,Z1,V,c):=oB c;dsimp at c;$$$$$c
 .ext1 as bs;let(rfl,rfl):=sP c;$(q Q ps Z T H U _ _ _ V S λvs W C u Y r1=>?_);let(v,vr,rfl,(a',h,rfl,rd,rs),v',vr',rfl,(b',e,rfl,f,o),rn):=r1;$$rn;let hl:=rs.length;let hl':=o.length;let lz:(oG as bs).length=min as.length bs.length:=by simp[oG]
  refine{a',b',h,e,ρ,Rd.mono u.sub rd,Rd.mono u.sub f,k _ W C u Y λi H2 g=>{λd j=>?_,λhle=>{h,e,Rd.mono g rd,Rd.mono g f,?_}}}
  .let hi:i<min as.length bs.length:=by rw[<-lz];$((bg.1 j).1)
   let D:i<as.length:=∅
   let F:i<bs.length:=∅
   let G:d=.U [as[i],bs[i]]:=by unfold oG at j;rw[ee,(aam (z:=(as[i],bs[i]))).2 {b8 D,b8 F}]at j;$((Option.some.inj j).symm)
   subst G;let(x,ex,rx):=rs.get<|b8 D;let(y,I,ry):=o.get<|b8 F;$({{h,e,x,y,Rd.mono g rd,Rd.mono g f,ex,I},λv H3 yl=>τ ?_});let(p,x',y',hp,rfl,rfl,l,m):=yl;let l:=l h<|Rd.mono g rd;let m:=m e<|Rd.mono g f;rw[ex]at l;rw[I]at m;$$$$$$l;$$$$$$m;$({p,_,hp,ρ,λHi' J n=>{p,_,ρ,bj.of bw,_,_,ρ,(rx.mono J).mono (j6 n),_,_,ρ,(ry.mono J).mono (j6 n),ρ}})
  lia
 exact nO c
theorem uP:∀{a:List ew}{b:List bt},aH (a.map V.str) b->abq b a
 |[],_,h=>by$$$h;$(.nil)
 | x::a,_,h=>by
  cases h with
  |cons r t=>let(k,e):=(r);$$e;$(.cons x k<|uP t)
def AS:List V->Hp->VK->Prop:=λxs H Q=>∃p a,xs=[.ref p]/\Rd H p (.L<|a.map V.str)/\a.length<64/\∀l,H l=al->Q (.ref l) (upd H l<|.L<|(cp a).map V.str)
def Mc:bP X (.builtin "sorted") AS:=by
 ext pins s σ H xs us Q I r h;let(p,d,rfl,rd,h64,q):=h;let(u,rfl,j):=r.one;$$j;let(z,its,n,f,e):=rd.ok I.aj;let b:=uP f;let k:its.length<64:=by let:=f.length;simp!
 $(sortedK ad0 {_,e,ρ,n,ρ} b.keysOf (λv₁ v₂ rest e=>aes (by rw[<-e];$b)) k λg m t=>?_);let(ss',i,v,x):=yE b m t;let(c,hD):=sortedAll_at s.heap its ((aeQ g).map (·.2));rw[vX v x]at i;let y:((cp d).map V.str).length<=sizeLine:=by simp![cp]
 $({.ref<|s.heap.objs.size+1,_,I.laid (o:=.L<|(cp d).map V.str) (λ_ _=>sortedAll_old) (abf _) ⟨y,_,c,zQ i,∅⟩,ρ,q _<|I.aj.fresh<|abf _})
def yS:List Dat->Option Res
 | [.L ds]=>match d7 ds with
  |some a=>if a.length<64 then ac (.O<|.L<|(cp a).map .str)else al
  |none=>iA [.L ds]
 |ds=>iA ds
theorem MJ:CD X (λxs H Q=>(λxs H Q=>vy X.K xs H Q\/vW xs H Q) xs H Q\/AS xs H Q) yS:=by
 ext d ps Z e H c vs ds o Q a S r k;delta yS at a;$$$$$a
 .$$$$$a
  .ext1 f g;$$$$$a
   .ext1 h;$$$$$$a;let(v,vr,rfl,(p,ws,rfl,rd,rs),i):=r;$$i;let j:=lO g rs;$$j;$(τ {p,f,ρ,Rd.mono S.sub rd,h,λl b=>?_});$(k (.ref l) _ c (S.made b) (af.refl _) {l,ρ,{_,bw,qK _,S.dP b},(S.bU b).2,(S.bU b).1,S.eM b})
   $(nO a)
  $(ι<|AE d ps Z e H c vs _ o Q a S r k)
 $(ι<|AE d ps Z e H c vs _ o Q a S r k)
def xO:List Dat->Option Res
 |[.L ds]=>ac (.O<|.L ds)
 |[.U ds]=>ac (.O<|.L ds)
 |_=>al
def MO (a:Gl X "list")(b:X.mg "list"=al)(c:bI X e [])(d:DA X [e] fa):DE X (.Call (.Name "list" p) [e] [] pos) (cE xO fa):=pO Kg (by
  ext H0 ps Z σ H f vs ds o Q e S r k;delta xO at e;$$$$$e
  .$$$e;let(v,g,rfl,(a,c,rfl,rd,rs),d):=r;$$$d;$({a,c,ρ,ι<|ι<|Rd.mono S.sub rd,λl b=>?_});$(k (.ref l) _ f (S.made b) (af.refl _) {l,ρ,{_,bw,rs,S.dP b},(S.bU b).2,(S.bU b).1,S.eM b})
  .$$$e;let(v,g,rfl,(a,c,rfl,rd,rs),d):=r;$$$d;$({a,c,ρ,τ<|bj.mono S.sub rd,λl b=>?_});$(k (.ref l) _ f (S.made b) (af.refl _) {l,ρ,{_,bw,rs,S.dP b},(S.bU b).2,(S.bU b).1,S.eM b})
  $(nO e)) a b (by decide +kernel) d ⋯ ρ c ρ
def Nq (u:s.heap.get? a=ac o)(v:o.cls=.type "tuple")(x:o.data=.seq vs.toArray n)(h:abq vs k)(l:vs.length<64)(q:∀(d i:k7) (c:Nat) (g:List bt),(∀b f,s.heap.get? b=ac f->d.get? b=ac f)->(∀b f,d.get? b=ac f->i.get? b=ac f)->i.get? d.objs.size=ac (aaz "list" g.toArray c)->abq g (cp k)->Q (.ref d.objs.size) {s with heap:=i}):gW (hJ prog w) A (call (.builtin "sorted") [.ref a]) Q E s:=by$(aa8 kind_sorted plain_sorted entry_sorted (args_sorted1 _) ?z);delta aaZ.«sorted»;$(cn<|fj<|cn<|wpAny_collect_seq a (τ ρ) u v x (λd y=>?H) (by simp;rw[vi];$_));$(cn<|adT ?I);let j:(d.push<|aaz "list" vs.toArray 0).get? d.objs.size=ac (aaz "list" vs.toArray 0):=g8 _ ρ;$(cn<|pA<|ub adI ⟨_,j,ρ⟩ adn (afX ad0 j h.keysOf (λv₁ v₂ rest e=>aes (by rw[<-e];$h)) l λp B C=>⟨_,ρ,?J⟩)<|adJ _);let(ss',r,D,F):=yE h B C;let(c,hD):=agm j;rw[vX D F]at r;$(fj {_,ρ,q d _ c _ y (λb f e=>?K) ∅ r});let G:=gk<|e7 e;let t:(d.push<|aaz "list" vs.toArray 0).get? b=ac f:=eJ _ e;$((aga G<|e7 t).trans t)
def EG(K:e6):List V->Hp->VK->Prop:=λxs H Q=>∃p a,xs=[.ref p]/\bj K H p (a.map V.str)/\a.length<64/\∀l,H l=al->Q (.ref l) (upd H l<|.L<|(cp a).map V.str)
def mn:List Dat->Option Res
 |[.U ds]=>(d7 ds).bind λa=>if a.length<64 then ac (.O<|.L<|(cp a).map .str)else al
 |ds=>yS ds
theorem QW:CD X (λxs H Q=>((λxs H Q=>vy X.K xs H Q\/vW xs H Q) xs H Q\/AS xs H Q)\/EG X.K xs H Q) mn:=by
 ext d ps Z e H c vs ds o Q a S r k;delta mn at a;$$$$$a
 .let(f,g,a):=oA a;$$$$$a
  .ext1 h;$$$$$$a;let(v,vr,rfl,(p,ws,rfl,rd,rs),i):=r;$$i;let j:=lO g rs;$$j;$(τ {p,f,ρ,bj.mono S.sub rd,h,λl b=>?_});$(k (.ref l) _ c (S.made b) (af.refl _) {l,ρ,{_,bw,qK _,S.dP b},(S.bU b).2,(S.bU b).1,S.eM b})
  $(nO a)
 $(ι<|MJ d ps Z e H c vs _ o Q a S r k)
theorem UU{e:fA}{fa:AF}{p:q7}(a:X.ex=[])(b:X.calm=bd)(c:Gl X "sorted")(d:X.mg "sorted"=al)(f:bI X e [])(g:DA X [e] fa):DE X (.Call (.Name "sorted" p) [e] [] pos) (cE mn fa) :=
 iE (bP.or (bP.or (bP.or (F9 a)<|BD a b) Mc) (by
   ext pins s σ H xs us Q I r h;let(p,b,rfl,g,h64,q):=h;let(u,rfl,i):=r.one;$$i;let(its,d,(o,j,k,n,l),_):=I.tuple g;let m:=uP d;let t:its.length<64:=by let:=d.length;simp!
   $(Nq j k l m t λe g2 c vs' v x y z=>?_);let f:=I.kept (t':=s.toks) v;let B:((cp b).map V.str).length<=sizeLine:=by simp![cp]
   $({.ref e.objs.size,_,f.laid (o:=.L<|(cp b).map V.str) x (eS _) {B,_,c,zQ z,y},ρ,q _<|f.aj.fresh<|eS _}))) QW c d (by decide +kernel) g ⋯ rfl f rfl
def OY(te:TE):TE:=λb H Q=>te b H λv a=>∃d kvs,v=.ref d/\a d=ac (.dK kvs)/\∀o,Q v<|upd a d<|.aZ o<|.dK kvs
def Lq (c:PE X e te):PE X e (OY te):=by$(λa s f H Q I h=>aF (c a s f H _ I h) λv s1 e=>?_);let(y,H1,b,g,i):=e;let(d,kvs,rfl,hd,q):=i;let(z,lo,vs,kv,o,es,ep,j,rest):=b.aj d _ hd;$({.ref d,_,b.aZ hd j,g,q o})
structure EY (x:ew):Prop where
 ok:True
def tH(f:EF):EF:=λZ=>(f Z).bind λp=>match p.1 with
 |.O (.cg a)=>ac (.D<|.eQ a,p.2)
 |_=>al
def K7 (ht:EY x)(b:X.N.Nodup)(hi:X.N.findIdx? (·==x)=ac i)(hx:Loc X.env.scope x)(c:X.fn x=bd\/X.env.scope.names.lookup x=some .local)(d:um e (ac<|.Name x a) pos.line X.env=pure false)(h:DE X e f):cH X (.Assign [.Name x a] e pos) (gK i<|tH f):=Bg b hi hx c d ((λh=>by
  let(t,p,q):=h;$({_,Lq p,λd ps Z g H i r Z' Q a S k=>?_});let(r1,Z1,j,a):=oB a;dsimp at a;$$$$$a
  .let(rfl,rfl):=sP a;$(q d ps Z g H i _ _ _ j S λv H1 Hi1 l m n=>?_);let(p,rfl,b,nl,u,nd):=n;let(kvs,x,y,np):=id b;$({p,kvs,ρ,x,λo=>?_});let(z,c):=l.held b nl u nd;$(k _ _ _ z (m.trans c) {p,o,kvs,ρ,bw,y.mono c})
  $(nO a)) h)
def rC:Dat->Dat->Option Res
 |.int i,.int j=>ac (.D<|.bl<|am<|i<j)
 |.str x,.str y=>ac (.D<|.bl<|am<|x.cps.toList<y.cps.toList)
 |_,_=>al
def Mt:ff X (λx y H Q=>(hZ λi j=>.bl<|am<|i<j) x y H Q\/(λx y H Q=>∃i j,x=.str i/\y=.str j/\Q (.bl<|am<|i.cps.toList<j.cps.toList) H) x y H Q) rC:=by
 ext H0 ps Z σ H a x y d d' o Q e S rx b k;delta rC at e;$$$$$e
 .$$$e;$$rx;$$b;$(ι {_,_,ρ,ρ,k _ H a S (af.refl _) ρ})
 .$$$$$$e;$$rx;$$b;$(τ {_,_,ρ,ρ,k _ H a S (af.refl _) ρ})
 $(nO e)
def VT (c:DD X a f)(d:DD X b g):DT X (.Compare a [.Lt] [b] pos) (e9<|cK rC f g):=lM (aV.or wJ J8) Mt c d<|jV _
end
section
open Sem (wp)
section
variable{prog:hE}{w:iR}{A:nL}{E:bt->dq->Prop}{β:Type}
theorem GD:∀(m k j:Nat),j<m->(∀i,k<=i->i<k+j->∀R:ForInStep β->dq->Prop,R (.yield b) s->gW (hJ prog w) A (f i b) R E s)->(∀R:ForInStep β->dq->Prop,R (.done r) s'->gW (hJ prog w) A (f (k+j) b) R E s)->Q r s' ->
  gW (hJ prog w) A (forIn (List.range' k m) b f) Q E s
 |0,_,_,h,_,_,_=>absurd h (aeY _)
 |m+1,k,0,h,_,hd,q=>by$(cn (hd _<|fj q))
 |m+1,k,j+1,h,a,hd,q=>by rw[aeC,acJ];$(cn<|a k (eS _) ⋯ _ ?_);$(GD m (k+1) j (by lia) (λi h1 h2=>a i (by lia) (by lia)) (by rw[show k+1+j=k+(j+1)from by lia];$hd) q)
end
section
variable{prog:hE}{w:iR}{A:nL}{E:bt->dq->Prop}{h:k7}{g:Array adC}{d:Drawn}{t:Nat}{os:OsState}
def PZ{l:cA}{its:Array bt}{n j:Nat}{x:ew}{tx:Tok}{a:List ew}{Q:Fin->dq->Prop}{o:ua}(v:h.get? l=ac o)(c:o.cls=.type "tuple")(hd:o.data=.seq its n)(f:abq its.toList a)(m:a[j]?=ac x)(p:∀i,i<j->a[i]?≠ac x)
 (q:Q (.done<|.ret<|.int (j:Int) t) {h,g,d,t+1,os}) :
  gW (hJ prog w) A (aaZ.«tuple.index» {[.ref l,.str x tx],[]}) Q E ⟨h,g,d,t,os⟩:=by
 let(cl,cg,D,sl):=o;subst c hd;let len:a.length=its.size:=by rw[<-f.strs];simp
 let s:j<its.size:=by let:=(bg.1 m).1;$_
 let at_:∀i (hi:i<its.size),∃y u,its[i]?=ac (aai y u)/\a[i]?=ac y:=λi hi=>by let(y,u,e):=f.all its[i] ⋯;$({y,u,by rw[nq hi,e],?_});simp?[<-f.strs,ee,lp,nq hi,e];rfl
 $$(aaZ.«tuple.index»);simp?[aeW]
 repeat (any_goals (first|assumption|(with_reducible $(GD (r:=(ac<|.done<|.ret<|.int (j:Int) t,())) (s':=⟨h,g,d,t+1,os⟩) _ _ j ?B ?C ?D ?F))|wp_step))
 case B=>simp[aeV];$_
 case C=>ext i _ hi R r;let(y,u,k,b):=at_ i (by lia);rw[k];$(cn<|abJ ?_);rw[decide_eq_false (λz=>p i (by lia) (by simp?[b,z])),if_neg aec];$(fj r)
 ext R r;rw[aal];let(y,u,k,b):=at_ j s;rw[m]at b;$$$$$$b;rw[k];$(cn<|abJ ?_);rw[decide_eq_true ρ,if_pos ρ];$(cn ?_);$$(retInt);$(cn<|wpAny_mkInt<|fj<|fj r)
end
end
section
variable{X:Cx}
def U8(K:e6):V->List V->Hp->VK->Prop:=λx vs H Q=>∃(p:cA) (a:List ew) (y:ew) (j:Nat),x=.ref p/\vs=[.str y]/\bj K H p (a.map V.str)/\a[j]?=ac y/\(∀i,i<j->a[i]?≠ac y)/\Q (.int (j:Int)) H
def Mu:mU X "tuple.index" (U8 X.K):=by ext pins s σ H x vs v us Q I rx d h;let(p,ss,y,j,rfl,rfl,e,f,g,q):=h;$$rx;let(u,rfl,i):=d.one;let(t,rfl):=(i);let(its,a,(o,b,c,n,k),_):=I.tuple e;$(ub adD {_,b,c} F.entry_tuple_index ?_<|F.args_tuple_index_2 _ _);$(PZ b c k (uP a) f g {_,ρ,.int (j:Int),H,I.tok _,{_,ρ},q})
structure zj (K:e6) (mg:ew->Option bt) (x:ew) (ss:List ew):Prop where
 is:∃(p:cA) (o:ua) (its:Array bt) (n:Nat),mg x=ac (.ref p)/\K.lookup p=ac o/\o.cls=.type "tuple"/\o.dict=al/\o.data=.seq its n/\its.size<=a9/\aH (ss.map V.str) its.toList
def HR(a:List ew)(fa:AF):DF:=λZ=>(fa Z).bind λq=>match q.1 with
 |[.str y]=>if y∈a then ac (.int ((a.idxOf y:Nat):Int),q.2)else al
 |_=>al
theorem Es{b:List ew}{y:ew}(h:y∈b):b[b.idxOf y]?=ac y/\∀i,i<b.idxOf y->b[i]?≠ac y:=by
 induction b with
 |nil=>lk
 |cons a r d =>
  ext(e:a=y)
  .$$e;rw[List.idxOf_cons_self];$({ρ,λi hi=>absurd hi<|aeY _})
  let h:y∈r:=by
   let rfl||h:=dV.1 h
   .$(absurd ρ e)
   $h
  let f:(a::r).idxOf y=r.idxOf y+1:=by
   let c:(a==y)=bi:=by
    cases c:a==y with
    |false=>rfl
    |true=>$(absurd (eq_of_beq c) e)
   rw[List.idxOf_cons,c];rfl
  rw[f];$({by$$$$((d h).1),λi hi=>?_});cases i with
  |zero=>$$$$e
  |succ i=>$$$$((d h).2 i (by lia))
def Js (g:zj X.K X.mg x f)(A:Gl X x)(hd:bM x)(i:z3 (.Name x h) "index" X.env (eval (.Name x h) X.env)=eval (.Name x h) X.env)(l:my X pos e)(j:(c.endLine==pos.line)=bd)(B:bI X e [])(C:DA X [e] fa):DD X (.Call (.Attribute (.Name x h) "index" c) [e] [] pos) (HR f fa):=by
 let(t,p,q):=C;let(a,o,its,n,m,r,s,D,E,G,I):=g.is;$({_,mD PySem.F.plainAttrs_tuple adD PySem.F.type_tuple_index Mu (C9 (v:=.ref a) A m ρ hd) p i l j B ρ,λJ ps Z L H M d Z' Q b S k=>?_});let(as,Z2,m,b):=oB b;dsimp at b;$$$$$b
 .$$$$$b
  .ext1 y u;let(rfl,rfl):=sP b;$({τ<|ι ⟨ρ,o,r,s,D⟩,q J ps Z L H M _ _ _ m S λvs N w O P R=>?_});let(z,yr,rfl,T,U):=R;$$U;$$T;$({a,f,y,f.idxOf y,ρ,ρ,τ ⟨o,its,n,r,s,E,G,I⟩,(Es u).1,(Es u).2,k _ N w O P ρ})
  $(nO b)
 $(nO b)
def vm:Nat:=1000
def SO (a:acf (hJ X.prog X.w) X.A X.env X.xe)(b:DT X c fc)(d:cY X body fb):cH X (.While c body [] pos) (gX fc fb vm):=Jm vm a b d
def Sz:cH X (.Raise e c p) (λ_=>al):={λ_ _ _=>False,λ_ _ _ _ _ _ h=>KX h,λ_ _ _ _ _ _ _ _ e=>by$$$e}
def IL (ht:m8 x)(d:X.N.findIdx? (·==x)=ac i)(e:cw X.env.scope x)(hd:bM x)(a:cT x):dv X b (.Name x c) (xJ i):=(λr s hd g=>by
  $({_,Gc<|eX (d6 r) s hd g,λH0 ps Z σ H Hi items Z' R a S k=>?_});unfold xJ at a;$$$$$a
  .ext1 fz t e;let(rfl,rfl):=sP a;let(p,c,(_,kvs,u,j,np),nl,n0):=S.O i _ e;$({_,c,p,kvs,ρ,u,λo bs kb=>?_});let(H1,l,f,v,_):=S.BJ kb;let(p',b,(_,kvs',hp',rk',m),_):=l.O i _ e;rw[c]at b;$$$b;let sm:=j6 (o:=.aZ o<|.dT kvs) m;let(y,A):=l.hold (d':=.bA true t) e c {p,o,kvs,ρ,bw,(j.mono f).mono sm};$(k _ _ _ y (f.trans A)<|Ie bw ((j.mono f).mono sm) (Paired.qZ v λ_ _ z=>sm _ _ z))
  $(nO a)) d e hd a
theorem Vd (ht:m8 g)(h:DE X (.Call (.Name g p) a [] pos) f):dv X b (.Call (.Name g p) a [] pos) (v7 f):=(λh=>by
  let(t,n,q):=h;$({_,Gc n,λH0 ps Z σ H Hi items Z' R a S k=>?_});unfold v7 at a;let(r,Z1,s,a):=oB a;dsimp at a;$$$$$a
  .ext1 fz x;let(rfl,rfl):=sP a;$(q H0 ps Z σ H Hi _ _ _ s S λv A Hi1 B C D=>?_);let(p,rfl,i,nl,E,nd):=D;let(_,kvs,F,G,np):=id i;$({p,kvs,ρ,F,λo bs kb=>?_});let(c,j,g,I,J):=B.BJ kb;let b:c p=al:=by
    cases z:c p with
    |none=>rfl
    |some u=>let y||(ts,y):=J p u z;simp!;let t:=j.sub _ _ z;simp!
   let l:=i.keeps ρ g b;let sm:=j6 (o:=.aZ o<|.dT kvs) b;let(L,M):=j.held l nl E nd;$(k _ _ _ L ((C.trans g).trans M)<|Ie bw ((G.mono g).mono sm) (Paired.qZ I λ_ _ z=>sm _ _ z))
  $(nO a)) h
abbrev jC:=St->Hp->ew->VK->Prop
def mS(X:Cx)(c:List fA)(t:jC):Prop:=∀(a:List (cA×ua)) (s:dq) (b:St) (H:Hp) (out:ew) (Q:VK),Inv X a b H s->t b H out Q->gW (hJ X.prog X.w) X.A (joinParts out<|evalEach c X.env) (EP X a b Q) X.xe s
def QI:jC:=λ_ H out Q=>out.length<=a9/\Q (.str out) H
theorem RQ:mS X [] QI:=by intro pins s σ H out Q I ⟨h,q⟩;$(joinParts_nilE<|joinParts_nil ⟨.str out,H,I.tok _,⟨_,ρ⟩,q⟩ h)
def RH(a:ew)(t:jC):jC:=λb H out Q=>(out++a).length<=a9/\t b H (out++a) Q
theorem S6{a:ew}{j:Nat}{p:q7}{c:List fA}{t:jC}(h:mS X c t):mS X (.Constant (.str a) j p::c) (RH a t):=by intro b s d H out Q I ⟨e,q⟩;$(afY<|agd<|adY ⟨e,?_⟩);$(h b _ d H _ Q (I.tok _) q)
def JB(te:TE)(t:jC):jC:=λa H out Q=>te a H λv b=>(∃y,v=.str y/\y.length<=a9/\(out++y).length<=a9/\t a b (out++y) Q)\/∃i:Int,v=.int i/\i.natAbs.log2<1920/\(out++(toString i:ew)).length<=a9/\t a b (out++(toString i:ew)) Q
theorem N0{e:fA}{p:q7}{f:List fA}{te:TE}{t:jC}(l:PE X e te)(h:mS X f t):mS X (.FormattedValue e (-1) al p::f) (JB te t):=by
 ext a s c H out Q I m;$(afY<|agd<|FormattedValue_plain (aF (l a s c H _ I m) λv s1 ⟨x,g,j,k,b⟩=>?_));let(y,rfl,n,d,b)||(i,rfl,hi,d,b):=b
 .let(t',rfl):=k;$(formatField_str (λt2 tk=>{d,h a _ c g _ Q (j.tok _) b}) n)
 let(t',rfl):=k;$(formatField_int_small hi {d,h a _ c g _ Q (j.tok _) b})
theorem MS{d e:fA}{a:List fA}{pos:q7}{t:jC}(h:mS X (d::e::a) t):PE X (.JoinedStr (d::e::a) pos) (λb H Q=>t b H ow Q):=by ext c s b H Q I q;$(JoinedStr_many<|h c s b H ow Q I q)
end
theorem dQ{b c:Type}{x:Option b}{f:b->Option c}{y:c}(h:x.bind f=ac y):∃a,x=ac a/\f a=ac y:=by
 cases x with
 |none=>$(nO h)
 |some a=>$(⟨a,ρ,h⟩)
section
variable{X:Cx}{pos:q7}
def tW:List Dat->Option Res
 |[.int i]=>if i.natAbs.log2<1920 then ac (.D<|.str (toString i:ew))else al
 |_=>al
theorem Jc:CD X (λxs H Q=>∃i:Int,xs=[.int i]/\i.natAbs.log2<1920/\Q (.str<|toString i) H) tW:=by
 ext H0 ps Z σ H a vs ds o Q e S r k;unfold tW at e;$$$$$e
 .$$$$$e
  .ext1 i hi;$$$$$$e;let(v,vr,rfl,b,c):=r;$$b;$$c;$({i,ρ,hi,k _ H a S (af.refl _) ρ})
  $(nO e)
 $(nO e)
theorem Mr{e:fA}{fa:AF}{p:q7}(a:Gl X "str")(b:X.mg "str"=al)(c:bI X e [])(d:DA X [e] fa):DE X (.Call (.Name "str" p) [e] [] pos) (cE tW fa):=pO J9 Jc a b (by decide +kernel) d ⋯ ⋯ c ρ
abbrev FS:=ew->DS->Option (ew×DS)
def V1(X:Cx)(F:FS)(t:jC):Prop:=∀(c:Hp×Hp) (ps:Nat->Option cA) (Z:DS) (b:St) (H d:Hp) (out y:ew) (e:DS) (Q:VK),F out Z=ac (y,e)->SR X.K c ps Z b H d->(∀f a,SR X.K c ps e b f a->af d a->Q (.str y) f)->t b H out Q
inductive oI (X:Cx) (es:List fA) (F:FS):Prop
 |mk (t:jC) (p:mS X es t) (q:V1 X F t)
def Fb:Dat->Option ew
 |.str y=>if y.length<=a9 then ac y else al
 |.int i=>if i.natAbs.log2<1920 then ac (toString i:ew)else al
 |_=>al
def mI:FS:=λout Z=>if out.length<=a9 then ac (out,Z)else al
def nM(a:ew)(F:FS):FS:=λout Z=>if(out++a).length<=a9 then F (out++a) Z else al
def jQ(f:DF)(F:FS):FS:=λout Z=>(f Z).bind λp=>(Fb p.1).bind λy=>if(out++y).length<=a9 then F (out++y) p.2 else al
theorem PD:oI X [] mI:=⟨_,RQ,λH0 ps Z σ H a out y Z' Q e S k=>by
 unfold mI at e;$$$$$e
 .ext1 h;let(rfl,rfl):=sP e;$({h,k H a S<|af.refl _})
 $(nO e)⟩
theorem UW{a:ew}{j:Nat}{p:q7}{b:List fA}{F:FS}(h:oI X b F):oI X (.Constant (.str a) j p::b) (nM a F):=by
 let(t,p,q):=h;$({_,S6 p,λc ps Z d H f out y g Q e S k=>?_});unfold nM at e;$$$$$e
 .ext1 h;$({h,q c ps Z d H f _ y g Q e S k})
 $(nO e)
theorem Pd{e:fA}{p:q7}{g:List fA}{f:DF}{F:FS}(r:DD X e f)(h:oI X g F):oI X (.FormattedValue e (-1) al p::g) (jQ f F):=by
 let(te,s,u):=r;let(t,p,q):=h;$({_,N0 s p,λi ps Z j H w out y x Q e S k=>?_});let((d,Z1),A,e):=dQ e;let(z,a,e):=dQ e;dsimp at a e;$$$$$e
 .ext1 l;$(u i ps Z j H w d Z1 _ A S λv B m C D n=>?_);let b:=q i ps Z1 j B m _ y x Q e C λE o G s'=>k E o G<|D.trans s';unfold Fb at a;$$$$$a
  .$$$$$a
   .ext1 c;$$$$$$a;$$n;$(ι {_,ρ,c,l,b})
   $(nO a)
  .$$$$$a
   .ext1 c;$$$$$$a;$$n;$(τ {_,ρ,c,l,b})
   $(nO a)
  $(nO a)
 $(nO e)
def wj(F:FS):DF:=λZ=>(F ow Z).map λp=>(.str p.1,p.2)
theorem LM{b c:fA}{a:List fA}{F:FS}(h:oI X (b::c::a) F):DD X (.JoinedStr (b::c::a) pos) (wj F):=by let(t,p,q):=h;$({_,MS p,λg ps Z i H j d Z' Q e S k=>?_});let((y,Z1),l,m):=gs.1 e;$$$m;$(q g ps Z i H j _ _ _ Q l S λn f o s'=>k _ n f o s' ρ)
theorem part_of{v:bt}{o:Option Int}(p:acD v o):∃l:Option (Int×Tok),v=partValue l/\l.map (·.1)=o:=by
 cases p with
 |none=>$(⟨al,ρ,ρ⟩)
 |int i t=>$({ac (i,t),ρ,ρ})
def Uh:V->Option Int->Option Int->Hp->VK->Prop:=λx lo hi H Q=>∃z:ew,x=.str z/\z.length<=a9/\Q (.str<|acC z lo hi) H
theorem Qc:kj X Uh:=by
 ext pins s σ H x v vl vu lo hi sl Q I rx a b c h;let(z,rfl,d,q):=h;let(t,rfl):=rx;$({"str",_,adg.lookup,abP s z t,?_});let(l,rfl,rfl):=part_of b;let(u,rfl,rfl):=part_of c;$(wpAny_getItem_str_slice (l:=l) (u:=u) (st:=al) a ρ ?_);let e:acC z (l.map (·.1)) (u.map (·.1))=if((1:Int)==1&&(adb z l u al).length==z.length)=bd then z else⟨((adb z l u al).filterMap (z.cps[·]?)).toArray⟩:=ρ;$$(sliceMade);rw[e]at q;show Made.post (if((1:Int)==1&&(adb z l u al).length==z.length)=bd then _ else _) _ _;split
 .ext1 hh;rw[if_pos hh]at q;$({.str z,H,I,⟨t,ρ⟩,q})
 ext1 hh;rw[if_neg hh]at q;$({?_,.str _,H,I.tok _,{_,ρ},q});$(m3 ?_ d);show(List.filterMap (z.cps[·]?)<|adb z l u al).toArray.size<=z.length;rw[fv];$(m3 (List.length_filterMap_le _ _)<|sliceIndices_le _ _ _)
theorem EK:∀l:List (ew×Tok),aH ((l.map (·.1)).map V.str) (strValues l)
 |[]=>.nil
 |p::l=>.cons ⟨p.2,ρ⟩<|EK l
def L6:V->List V->Hp->VK->Prop:=λx vs H Q=>∃y z:ew,x=.str y/\vs=[.str z]/\z.length≠0/\y.length+2<=a9/\∀p,H p=al->Q (.ref p) (upd H p<|.L<|(Txt.split y z).map V.str)
theorem split_len(y z:ew):(Txt.split y z).length<=y.length+2:=by
 $$(Txt.split);split
 .simp
 split
 .simp
 rw[acn];let:=ade y z 0 y.length<|y.length+1;$_
theorem Qj:mU X "str.split" L6:=by
 ext d s g H x vs v us Q I rx i h;let(y,z,rfl,rfl,j,hl,q):=h;let(t,rfl):=rx;let(u,rfl,m):=i.one;let(u,rfl):=m;let f:(z.length==0)=bi:=by$$$$j
 let b:∀(l:List (ew×Tok)) (k:Nat),l.map (·.1)=Txt.split y z->EP X d g Q (.ref s.heap.objs.size) {s with toks:=k,heap:=s.heap.push {cls:=.type "list",data:=.seq (strValues l).toArray} }:=λl k e =>
  {.ref s.heap.objs.size,_,I.sx (t':=k) (ys:=(Txt.split y z).map V.str) (e ▸ EK l) (by rw[a8];let:=split_len y z;$_),ρ,q _ I.fresh}
 let n:(acq y (lq y z 0 y.length<|y.length+1) z.length).length<=sizeLine:=by let e1:=ade y z 0 y.length<|y.length+1;rw[acn];$_
 cases a:(am (y.length<z.length)||am (acY y<acY z))
 .cases c:(lq y z 0 y.length<|y.length+1).isEmpty
  .$(HT abd (abP _ _ _) acE (aco _ _) (meets_str_split_sep y z t u a f c ∅ n) ?_);show wants _ _ _ {s with toks:=_,heap:=s.heap.push {cls:=.type "list",data:=.seq (strsFrom s.toks<|acq y (lq y z 0 y.length<|y.length+1) z.length).toArray} };rw[strsFrom_eq];$(b (numbered s.toks _) _<|(numbered_texts _ _).trans ((if_neg<|ne_true_of_eq_false a).trans (if_neg<|ne_true_of_eq_false c)).symm)
  $(HT abd (abP _ _ _) acE (aco _ _) (meets_str_split_not_found y z t u a f c)
   (b [(y,t)] s.toks ((if_neg<|ne_true_of_eq_false a).trans (if_pos c)).symm))
 $(HT abd (abP _ _ _) acE (aco _ _) (meets_str_split_cannot_occur y z t u a)
  (b [(y,t)] s.toks (if_pos a).symm))
theorem OV:bP X (.type "int") (λxs H Q=>∃(x:ew) (n:Int),xs=[.str x]/\aeM x=ac n/\x.length<=640/\Q (.int n) H):=by ext pins s σ H xs us Q I r h;let(x,n,rfl,a,b,q):=h;let(u,rfl,c):=r.one;let(t,rfl):=c;$(W.KIN.call_text a b {.int n,H,I.tok _,{_,ρ},q})
def vP(f:DF)(l h:OF):EF:=λZ=>(f Z).bind λp=>(l p.2).bind λa=>(h a.2).bind λb=>match p.1 with
 |.str z=>if z.length<=a9 then ac (.D<|.str<|acC z a.1 b.1,b.2)else al
 |_=>al
theorem TF{e:fA}{f:DF}{l h:OF}{lo hi:Option fA}{y:q7}(A:DD X e f)(B:DO X lo l)(hh:DO X hi h):DE X (.Subscript e (.Slice lo hi al y) pos) (vP f l h):=by
 let(t,p,q):=A;let(tl,C,D):=B;let(th,E,F):=hh;$({_,HA Qc p C E,λj ps Z m H G o Z' Q n S k=>?_});let((d,Z1),I,g):=dQ n;let((a,Z2),r,i):=dQ g;let((b,Z3),s,c):=dQ i;clear n g i;dsimp at r s c;$(q j ps Z m H G d Z1 _ I S λv J u K L M=>?_);$(D j ps Z1 m J u a Z2 _ r K λN w O P=>?_);$(F j ps Z2 m N w b _ _ s O λR x T U=>?_);$$$$$c
 .$$$$$c
  .ext1 z V;$$$c;$$$M;$({z,ρ,V,k _ R x T ((L.trans P).trans U) ρ})
  $$$c
 $$$c
theorem Iz{e:fA}{f:DF}{l h:OF}{lo hi:Option fA}{c:q7}(a:DD X e f)(b:DO X lo l)(hh:DO X hi h):DE X (.Subscript e (.Slice lo hi al c) pos) (alt (iD f l h)<|vP f l h):=DE.alt (Cn a b hh)<|TF a b hh
def qx(f:DF)(fa:AF):EF:=λZ=>(f Z).bind λp=>(fa p.2).bind λq=>match p.1,q.1 with
 |.str y,[.str z]=>if z.length≠0/\y.length+2<=a9 then ac (.O<|.L<|(Txt.split y z).map .str,q.2)else al
 |_,_=>al
theorem UC{o e:fA}{b:q7}{f:DF}{fa:AF}(i:z3 o "split" X.env (eval o X.env)=eval o X.env)
 (n:my X pos e)
 (j:(b.endLine==pos.line)=bd)(D:bI X e [])(E:DD X o f)(G:DA X [e] fa):DE X (.Call (.Attribute o "split" b) [e] [] pos) (qx f fa):=by
 let(to,I,J):=E;let(t,p,q):=G;$({_,mD ac7 abd PySem.F.type_str_split Qj I p i n j D ρ,λr ps Z s H K d Z' Q w S k=>?_});let((c,Z1),L,m):=dQ w;let((as,Z2),x,a):=dQ m;clear w m;dsimp at x a;$$$$$a
 .$$$$$a
  .ext1 y z A;$$$a;$(J r ps Z s H K _ Z1 _ L S λv M B N O P=>?_);$$$P;$({ρ,q r ps Z1 s M B _ _ _ x N λvs H2 C g R T=>?_});let(u,ur,rfl,U,V):=T;$$$V;$$$U;$({y,z,ρ,ρ,A.1,A.2,λl h=>?_});$(k (.ref l) _ C (g.made h) (O.trans R) {l,ρ,{_,bw,qK _,g.dP h},(g.bU h).2,(g.bU h).1,g.eM h})
  $$$a
 $$$a
def vz:List Dat->Option Res
 |[.str x]=>if x.length<=640 then(aeM x).map λn=>.D (.int n)else al
 |_=>al
theorem IZ:CD X (λxs H Q=>∃(x:ew) (n:Int),xs=[.str x]/\aeM x=ac n/\x.length<=640/\Q (.int n) H) vz:=by
 ext H0 ps Z σ H a vs ds o Q e S r k;unfold vz at e;$$$$$e
 .$$$$$e
  .ext1 x hx;let(n,b,c):=gs.1 e;$$c;let(v,vr,rfl,d,f):=r;$$$d;$$$f;$({x,n,ρ,b,hx,k _ H a S (af.refl _) ρ})
  $$$e
 $$$e
theorem MR{e:fA}{fa:AF}{p:q7}(a:Gl X "int")(b:X.mg "int"=al)(c:bI X e [])(d:DA X [e] fa):DE X (.Call (.Name "int" p) [e] [] pos) (cE vz fa):=pO OV IZ a b (by decide +kernel) d ⋯ ⋯ c ρ
end
section
open PySem.NumText
theorem Lo{a b:ew}(h:a.cps.toList=b.cps.toList):a=b:=Str.ext'<|aey.1 h
theorem HC(a b:ew):(a++b).cps.toList=a.cps.toList++b.cps.toList:=by rw[zd,r3]
def inter(c:Nat):List (List Nat)->List Nat
 |[]=>[]
 |[p]=>p
 |p::q::r=>p++c::inter c (q::r)
theorem oE(c:Nat):∀ps:List ew,(wm ⟨#[c]⟩ ps).cps.toList=inter c (ps.map (·.cps.toList))
 |[]=>rfl
 |[p]=>rfl
 |p::q::r=>by show(p++(⟨#[c]⟩:ew)++wm ⟨#[c]⟩ (q::r)).cps.toList=_;rw[HC,HC,oE c (q::r)];show(p.cps.toList++[c])++_=_;rw[nE];rfl
theorem Oc(c:Nat):∀(ps d:List (List Nat)),ps≠[]->d≠[]->(∀p∈ps,c∉p)->(∀q∈d,c∉q)->inter c ps=inter c d->ps=d:=by
 let free:∀(a b:List Nat) (x y:List Nat),c∉a->c∉b->a++c::x=b++c::y->a=b/\x=y:=by
  ext a;induction a with
  |nil =>
   ext b x y _ f e;cases b with
   |nil=>$({ρ,by$$$$e})
   |cons z b=>simp at e;$(absurd (by rw[e.1];simp) f)
  |cons z a i =>
   ext b x y j f e;cases b with
   |nil=>simp at e;$(absurd (by rw[<-e.1];simp) j)
   |cons w b=>simp at e j f;let(k,l):=i b x y j.2 f.2 e.2;$({by rw[e.1,k],l})
 ext ps;induction ps with
 |nil=>ext d h;$(absurd ρ h)
 |cons p ps i =>
  ext d _ t o r e;cases d with
  |nil=>$(absurd ρ t)
  |cons q d =>
   let s:=o p eR;let g:=r q eR;cases ps with
   |nil =>
    cases d with
    |nil=>$(congrArg (·::[]) e)
    |cons m d=>$(absurd (show c∈p by rw[show p=q++c::inter c (m::d)from e];simp) s)
   |cons u ps =>
    cases d with
    |nil=>$(absurd (show c∈q by rw[<-(show p++c::inter c (u::ps)=q from e)];simp) g)
    |cons m d=>let(k,l):=free p q _ _ s g e;rw[k,i (m::d) ⋯ ⋯ (λz n=>o z<|eH _ n) (λz n=>r z<|eH _ n) l]
theorem U7(x y:ew):Txt.split x y≠[]:=by
 ext e;let:=abS x y;unfold Txt.split at e;$$$$$e
 .$$$e
 $$$$$e
 .$$$e
 let h:=acn x (lq x y 0 x.length<|x.length+1) y.length;rw[e]at h;$$$h
theorem split_free(x:ew)(c:Nat):∀p∈Txt.split x ⟨#[c]⟩,c∉p.cps.toList:=StrLaws.split_free x c
theorem uU(c:Nat){ps:List ew}(g:ps≠[])(j:∀p∈ps,c∉p.cps.toList):Txt.split (wm ⟨#[c]⟩ ps) ⟨#[c]⟩=ps:=by
 let e:=abS (wm ⟨#[c]⟩ ps) ⟨#[c]⟩;let i:=congrArg (λz:ew=>z.cps.toList) e
 rw[oE,oE]at i;let:=Oc c _ _ (by$$$$(U7 _ _)) (by$$$$g) (by
  ext p d;let(q,f,rfl):=a5.1 d;$(split_free _ _ q f)) (by
  ext p d;let(q,f,rfl):=a5.1 d;$(j q f)) i
 let inj:∀(a b:List ew),a.map (·.cps.toList)=b.map (·.cps.toList)->a=b:=by
  ext a;induction a with
  |nil=>ext b h;$$$b<;>simp at h ⊢
  |cons x a k =>
   ext b h;cases b with
   |nil=>simp at h
   |cons y b=>simp?[fR,acb]at h;rw[Lo h.1,k b h.2]
 $(inj _ _ this)
def l7(x:ew):Bool:=am (1<=x.length)&&am (x.length<=60)&&x.cps.toList.all λc=>am (48<=c)&&am (c<=57)
def vl(x:ew):Nat:=afD x.cps.toList
theorem ug{x:ew}:l7 x=bd↔1<=x.length/\x.length<=60/\aaf x.cps.toList:=by unfold l7 aaf;rw[ec,ec,decide_eq_true_eq,decide_eq_true_eq,ib,and_assoc];simp?[ec,decide_eq_true_eq]
theorem len_list(x:ew):x.cps.toList.length=x.length:=ρ
theorem yY(m:Nat):(cm<|toString ((m:Nat):Int)).cps.toList=(afI 10 m).map af2:=aeB m
theorem Iw(m:Nat):aaf (cm<|toString ((m:Nat):Int)).cps.toList:=by ext c a;rw[yY]at a;let(ch,b,e):=a5.1 a;let r:=acg<|acZ ⋯ ⋯ b;rw[<-e];$r
theorem BZ(m:Nat):vl (cm<|toString ((m:Nat):Int))=m:=by$$(vl);rw[yY];$(W.KIN.val_back m)
end
def jx(c H a:Hp):Prop:=∀b,a b=H b\/((∀o u,c b≠ac (.aZ o u))/\∃o xs,H b=ac (.aZ o<|.L xs)/\a b=ac (.L xs))
section
variable{X:Cx}{pins:List (cA×ua)}{σ:List (Option V)}{H H' H0:Hp}{s:dq}{K:e6}{Hi Hi1:Hp}
theorem jx.none(t:jx H0 H H'){b:cA}(h:H b=al):H' b=al:=by
 let e||(_,o,xs,e,_):=t b
 .rw[e];$h
 rw[h]at e;$$$e
theorem jx.U(t:jx H0 H H'){b:cA}{xs:List V}(h:H b=ac (.U xs)):H' b=ac (.U xs):=by
 let e||(_,o,ys,e,_):=t b
 .rw[e];$h
 rw[h]at e;$$$e
theorem jx.O(t:jx H0 H H'){b a:cA}(h:H b=ac (.O a)):H' b=ac (.O a):=by
 let e||(_,o,ys,e,_):=t b
 .rw[e];$h
 rw[h]at e;$$$e
theorem Inv.uO(I:Inv X pins σ H s)(t:jx X.fK H H'):Inv X pins σ H' s where
 ok:=I.ok
 os:=I.os
 bare:=I.bare
 base:=⟨I.base.keep,I.base.slot,λb o e n x=>t.none<|I.base.free b o e n x,I.base.there,λb xs e=>t.U<|I.base.iV b xs e,λb o u e=>(by
  let z||(n,_):=t b
  .rw[z];$(I.base.ig b o u e)
  .$(absurd e<|n o u)),λb ps e=>(by
  let z||(n,o,xs,y,_):=t b
  .rw[z];$(I.base.iq b ps e)
  let(more,z):=I.base.iq b ps e;rw[y]at z;$$$z)⟩
 loc:=I.loc
 cell:=I.cell
 free:=t.none I.free
 fV:=λx c e=>t.none<|I.fV x c e
 pin:=λp d=>{(I.pin p d).1,t.none (I.pin p d).2.1,(I.pin p d).2.2}
 aj:=λa o e=>by
  let z||(n,o',xs,f,g):=t a
  .rw[z]at e;$((I.aj a o e).hX (λ_ _ _ h=>h) (λb h=>t.O h) λb xs h=>t.U h)
  rw[g]at e;$$$e;$((I.aj a _ f).2)
 len:=I.len
theorem da.uO{st:List zR}{t:TS}(h:da X st t):da X st (λD σ H=>∃H',jx X.fK H H'/\t D σ H'):=λpins s σ H D I ⟨H',a,q⟩=>h pins s σ H' D (I.uO a) q
structure Known (X:Cx) (H:Hp):Prop where
 kf:∀b o,X.K.lookup b=ac o->H b=al
 fz:∀b,H b=al->∀o u,X.fK b≠ac (.aZ o u)
theorem Inv.known(I:Inv X pins σ H s):Known X H:={λb o e=>(I.bs b o<|I.mod.vE b o e).2,λb n o u e=>by rw[I.base.ig b o u e]at n;$$$n}
theorem da.EA{st:List zR}{t:TS}(h:da X st t):da X st (λD σ H=>Known X H->t D σ H):=λpins s σ H D I q=>h pins s σ H D I<|q I.known
open Classical in
theorem aw.CP:∀{ds:List Dat}{vs:List V}{i:Nat}{v:V},aw K H ds vs->vs[i]?=ac v->∃d,ds[i]?=ac d/\Rep K H d v
 |[],_,_,_,r,e=>by cases(show _=[]from r);$$$e
 |d::ds,_,0,_,⟨v,r,rfl,q,t⟩,e=>by$$$e;$(⟨d,rfl,q⟩)
 |d::ds,_,i+1,_,⟨v,r,rfl,q,t⟩,e=>aw.CP (i:=i) t e
theorem Ef:∀{ns:List ew}{vs:List V},aw K H (ns.map Dat.str) vs->vs=ns.map V.str
 |[],_,r=>r
 | x::ns,_,⟨v,r,rfl,q,t⟩=>by
  cases(q);rw[Ef t];rfl
theorem Rd.one{b:cA}{u a:HO}(h:Rd Hi b u)(h':Rd Hi b a)(d:∀o x,u≠.aZ o x)(c:∀o x,a≠.aZ o x):u=a:=by
 let h||(o,h):=h<;>let h'||(o',h'):=h'<;>rw[h]at h'<;>$$$h'
 .rfl
 .$(absurd ρ<|d _ _)
 .$(absurd ρ<|c _ _)
 rfl
end
section
namespace Mq
open Lean
nonrec def wk(k:String):MacroM (TSyntax `tactic):=`(tactic|walk_at $(Syntax.mkStrLit k):str)
nonrec def xa(n:Name):MacroM (TSyntax `tactic):=`(tactic|exact $(mkIdent n) (by assumption))
nonrec def xe(n:Name):MacroM (TSyntax `tactic):=`(tactic|exact $(mkIdent n))
nonrec def xi(k:String):MacroM (TSyntax `tactic):=do `(tactic|(intro _ _ _ _ _;$(← wk k):tactic))
nonrec def tc(c:Char):MacroM (TSyntax `tactic):=match c with
|'='=>`(tactic|with_reducible assumption)
|'r'=>`(tactic|rfl)
|'a'=>`(tactic|assumption)
|'d'=>`(tactic|decide)
|'e'=>`(tactic|exact ρ)
|'f'=>`(tactic|exact fun _=>rfl)
|'g'=>`(tactic|exact fun _ _=>rfl)
|'h'=>xa `lX
|'i'=>xa `vc
|'j'=>xa `qN
|'n'=>`(tactic|exact uC (by rfl))
|'p'=>xi "G"
|'t'=>xi "J"
|'u'=>xi "D"
|'w'=>xe `ab9
|'x'=>`(tactic|(simp[fW, *];done))
|'s'=>`(tactic|(simp[nX,fW, *];done))
|'q'=>`(tactic|(first |rfl |assumption |(simp[*];done)))
|'2'=>`(tactic|first |assumption |rfl |decide +kernel)
|'3'=>`(tactic|(first |assumption |(simp[a9];done)))
|'4'=>`(tactic|(intro _ _;walk_at "S"))
|c=>wk c.toString
nonrec def ru(s:String):MacroM (TSyntax `tactic):=do
 if s.front=='>' then return (← wk (s.drop 1).toString)
 if s.front=='.' then return (← tc s.back)
 let b:=s.front=='!';let p:=(if b then (s.drop 1).toString else s).splitOn " ";let f:=mkIdent p.head!.toName;let mut h:=#[];let mut t:=#[]
 for c in (p.getD 1 "").toList do
  if c=='_' then h:=h.push (← `(?_))
  else
   let n:=mkIdent<|← Macro.addMacroScope (.mkSimple s!"x{h.size}")
   h:=h.push<|← `(?$n:ident)
   t:=t.push<|← `(tactic|case $n:ident=>$(← tc c):tactic)
 let r← if b then `(tactic|with_reducible refine' $f $h*) else `(tactic|refine' $f $h*)
 t.foldlM (λr x=>`(tactic|($r:tactic;$x:tactic))) r
nonrec def ra(s:String):MacroM (TSyntax `tactic):=do
 match s.splitOn "&" with
 |f::l=>
  let l←l.mapM ru
  match l.reverse with
  |[]=>ru s
  |x::l=>l.foldlM (λy x=>`(tactic|(refine' $(mkIdent f.toName) ?m ?n;(case m=>$x:tactic);(case n=>$y:tactic)))) x
 |[]=>ru s
nonrec def fs(s:String):MacroM Syntax:=do
 let l←(s.splitOn "|").mapM ra
 return (← l.reverse.foldlM (λy x=>`(tactic|first|$x:tactic|$y:tactic)) (← `(tactic|fail)))
nonrec def go(s:TSyntax `str)(t:String):MacroM Syntax:=do
 for e in t.splitOn "~" do
  if let [k,v]:=e.splitOn "@" then
   if k==s.getString then return ← fs v
 Macro.throwUnsupported
end Mq
local macro_rules | `(tactic| walk_at "r0")=>`(tactic| exact abW rfl)
local macro_rules | `(tactic| walk_at "r1")=>`(tactic| exact acI<|abW rfl)
local macro_rules | `(tactic| walk_at "r2")=>`(tactic| exact acI<|acI rfl)
local macro_rules | `(tactic| walk_at "r3")=>`(tactic| exact acI rfl)
local macro_rules | `(tactic| walk_at "r4")=>`(tactic| exact xD (by rfl))
local macro_rules | `(tactic| walk_at "r5")=>`(tactic| exact bS.mono (by assumption) ⋯)
local macro_rules | `(tactic|walk_at "h")=>`(tactic|(intros;cases‹Txt _›;walk_at "S"))
local macro_rules | `(tactic| walk_at "r6")=>`(tactic| (simp[kc,kh,xU,uT,lL,vo, *];done))
local macro_rules | `(tactic| walk_at "r7")=>`(tactic| (simp[kc,kh,xU,uT,lL];omega))
local macro_rules | `(tactic| walk_at "r8")=>`(tactic| decide +kernel)
local macro_rules | `(tactic| walk_at "w")=>`(tactic| repeat walk_at "w0")
local macro_rules | `(tactic| walk_at "wb")=>`(tactic| first|((with_reducible refine' B' ?p ?_);(case p=>walk_at "v"))|((with_reducible refine' vp ?_);walk_at "wb")|fail)
local macro_rules | `(tactic| walk_at "wif")=>`(tactic| ((with_reducible refine' mV ?_);walk_at "wb"))
local macro_rules | `(tactic| walk_at "r12")=>`(tactic| (refine' FE ?a ?b;(case a=>walk_at "Y");(case b=>walk_at "dsk")))
local macro_rules | `(tactic| walk_at "r13")=>`(tactic| (refine' FE ?a ?b;(case a=>walk_at "Z");(case b=>walk_at "dskc")))
local macro_rules | `(tactic| walk_at $s:str)=>Mq.go s "w0@!ao _|!au _|!fN _|!se _|!bc ve_|!Af ve_|!rT v_|!bY v_|!bp _~V@>r0|>r1|>r2~L@>r0|>r3~F@>r0|>r3~N@.a|>r4~R@.a|>r5~A@MB|Ry rDA~B@Jr rVrddA|S9 rDB~O@Kw|MA D~G@L0 NrLF|O3 rrrH~H@Rm|IT rGH~I@Pe rarA|dv.alt&Qi D&IJ D~J@U'|Tx T~1@V3 aarD|UZ|JJ|JI|Te|Tg rVdd|Sb ard|RB rVhddgD|Tf hgDD|Ue A|Tj D|Us D|Uz DD|Li DD|L1 D|KZ rDDD|Mv rVradd|Qa rararD|P8 rararD|UA rararD|IX rararD|P0 rararD|RO rrrrD~D@>1|DE.dd 0~0@V5 aaRrD|Mq DD|TV DD|DE.alt&Tr DD&Vj DD|PU DD|Lg DD|RW DD|Tq iDD|QS iDD|Ke DD|R1 DD|M7 jrDD|IQ A|SG DOO|O4 aarrrrnrfIptu|FY arrnrfIptu|Qu arRdrrA|LF arRdrrB|BX rrrarA|Tn rarA|G3 rarA|To rrarA|La rrarrA|Jy rrarrA~E@>0|DD.de 1~W@K' T|JD T|Jp TW|Tv TW~T@Pg iDD|SW iDD|Rh DD|VB DD|Oy DD|Pk jrDD|Ud jrDD|MX rDDD|P9 T|DW.dt W|Ve fD~M@Jo rVdd|>E~Z@VY M|Bg NrLFrE|N1 arrLFrrnrfIptu|cH.alt&PJ rVddfrrrDD&M6 rVhddrDD|Pj rrrDG|QK rVddrrrrrA|KL wrfIGS|CM TSS~S@Cb|DR ZS~P@.a|.r~c@mq|gv P|Ir x|lj s|zG s~y@.r|.a|>r6|>r7|>r8~o@.=|kD q|ui|qv 22|v_eq cc|va cc|pj 3|eU 3|.e~z@.=|!Vf y|!O0 y|.e~k@Aj yv|qz yv~Q@!Rc ee|!V4|!dR v~m@!Ul|!Nc|.e~v@.=|!ak|!ae vv|!dS vQ|!r6 vk|!xl v|!ij vz|!Ec vz|!nc v|!v_and vk|!js vv|!v_or vk|!tf vv|!gE v|!eC vz|!bB v|!zB vv|!Dl vv|!v_res v|!ah vm|!aq vvo|!Fj vz|!aE vz|!dz eveze|!dW v3|!hU v3|!mB vvz|!dD evez|!eG ez|!TJ v|!yF vvovo|!JT veveze|!gZ v|!rS ev|.e~Y@cH.calm Z|CM TXX~X@Cb|DR YX~dsk@Ge|>r12~dskc@Ge|>r13"
section
variable{P:hE}{w:iR}{K:e6}{mg:ew->Option bt}{base:k7}
def DX(fn:aJ):Prop:=∀(n:Dat) (x y r t:Int),dX (r-x) (t-y)=bd->fn [.U [n,.int x,.int y,.int r,.int t]]=ac (.D<|.int<|(r-x)*(t-y))
def Qt(T:Txt mg)(F:ba K "area" "area" Aa f a):∃fn,aS P w K mg base aT 1 f a ["row"] (ay K fn)/\DX fn:=by
 $$$(bQ F FC (n:=1) ρ ?C ?B)
 case C=>let nd:=FC.nd;$("h")
 clear T F;ext n x y r t h;$$$(uK ?e)
 case e=>$("v")
def iP:aJ
 | [d]=>(iG d "int").bind λa=>(iG d "bool").map λb=>.D (.bl<|a&&!b)
 |_=>al
theorem Tt(i:Int):iP [.int i]=ac (.D<|.bl true):=by simp[iP,iG,isExc,v8,pX,uv]
def gn:dB
 |.L [.int a,.int b],[.int m]=>if 0<m/\m.natAbs.log2<9000 then ac (if a=0 then(.D<|.int<|b%m,.L [.int 0,.int<|b/m])else(.D<|.int<|a%m,.L [.int (a/m),.int b]))else al
 |_,_=>al
theorem R9(T:Txt mg){f:cA}{g:gi}(F:ba K "_law_whole" "_law_whole" Bj f g):aS P w K mg base aT 1 f g ["_law_found"] (ay K iP):=by
 refine' vS F HD ?B ?C ?D
 case B =>
  ext ds r h;unfold iP at h;$$$$$h
  .rfl
  cases h
 case C=>let nd:=HD.nd;let lk:j7 "_law_purse_here":=⟨trivial⟩;$("h")
 clear T F;ext ds r h;unfold iP at h;$$$$$h
 .ext1 d;cases c:iG d "int" with
  |none=>rw[c]at h;$$$h
  |some a =>
   cases e:iG d "bool" with
   |none=>rw[c,e]at h;$$$h
   |some b=>rw[c,e]at h;$$$h;$$$a<;>simp[ic,gy,iQ,mh,nH,oU,jo,cS,kQ,uW,c,e]
 cases h
theorem Ko(T:Txt mg){f:cA}{g:gi}(F:ba K "_law_take" "_law_take" zi f g):aS P w K mg base aT 1 f g ["_law_purse_here","_law_many"] (dr K 0 gn):=by
 $$$(BG (j:=0) F CT ?B ?C ?D)
 case B =>
  ext c ds r h;unfold gn at h;$$$$$h
  .rfl
  $$$h
 case C=>let nd:=CT.nd;let lk:j7 "_law_purse_here":=⟨trivial⟩;$("h")
 clear T F;ext c ds r h;unfold gn at h;$$$$$h
 .$$$$$h
  .ext1 a b m d;$$$h;let hd:oC a m=bd:=by$$(oC);$$$$d
   let hd':oC b m=bd:=by$$(oC);$$$$d
   let hm':=d.1;ext(i:a=0)
   .$$i;$$$(Ax ?e ?k)
    case e=>$("v")
    case k=>rfl
   rw[if_neg i];$$$(Ax ?e ?k)
   case e=>$("v")
   case k=>rfl
  $$$h
 $$$h
def intBits_le (h:i.natAbs<2 ^ n):pe i<=n:=by
 delta pe;split
 .lia
 ext1 z;let:=(ad2 (by ext e;$(z (by$$$$e)))).2 h;lia
def jP (h:j.natAbs<2 ^ 64):dX i j=bd:=by let:=intBits_le h;delta dX abU;rw[show am (pe j>64)=bi from decide_eq_false (by lia)];simp
def MY (h:i.natAbs<2 ^ 64):dX i j=bd:=by let:=intBits_le h;delta dX abU;rw[show am (pe i>64)=bi from decide_eq_false (by lia)];simp
def zE (hi:i.natAbs<2 ^ 210)(a:j.natAbs<2 ^ 210):dX i j=bd:=by let h1:=intBits_le hi;let h2:=intBits_le a;unfold dX acH;rw[show am ((pe i:Int)+(pe j:Int)>bitsLine)=bi from decide_eq_false (by$$(bitsLine);$_)];simp
def vU(k:Int)(s:Int×Int):Int×Int:=let n:=(s.1*s.1+48271*k*k+k+3)%2147483629;(n,s.2*2147483587+n*n%2147483587)
def DH:List Int:=(lb 24).map λk:Nat=>0+(k:Int)
def Ff(c:Int):Int:=(DH.foldl (λs k=>vU k s) (c%2147483647,1)).2
def og:aJ
 |[.int c]=>ac (.O<|.L [.int (if c ≥ 10 ^ 18 then c-10 ^ 18 else 0),.int<|Ff c])
 |_=>al
theorem tV{n:Int}{x:Dat}(h:x∈dY 0 n):∃k:Int,x=.int k/\0<=k/\k<n:=by unfold dY at h;let(j,a,rfl):=a5.1 h;let:=aah.1 a;$({_,ρ,∅,∅})
abbrev CV(c:Int)(s:Int×Int×Option Dat):DS:=[Slot.D (.int c),.D<|.int s.1,.D<|.int s.2.1,match s.2.2 with|none=>.no|some d=>.D d]
def vG(x:Dat)(s:Int×Int×Option Dat):Int×Int×Option Dat:=match x with|.int k=>((vU k (s.1,s.2.1)).1,(vU k (s.1,s.2.1)).2,ac x)|_=>s
theorem Eb:∀(c:List Int) (a b:Int) (o:Option Dat),((((c.map Dat.int).foldl (λs x=>vG x s) (a,b,o)).2).1)=(c.foldl (λs k=>vU k s) (a,b)).2
 |[],_,_,_=>rfl
 |k::c,a,b,o=>by rw[fR,aaS,aaS];$(Eb c _ _ _)
theorem Px(c:Int):Ff c=((dY 0 24).foldl (λs x=>vG x s) (c%2147483647,1,al)).2.1:=(Eb DH _ _ _).symm
theorem OK(T:Txt mg){f:cA}{m:gi}(F:ba K "_law_purse" "_law_purse" xB f m):aS P w K mg base aT 1 f m ["_law_cell"] (ay K og):=by
 $$$(vS F F6 ?B ?S ?U)
 case B =>
  ext ds r h;unfold og at h;$$$$$h
  .rfl
  $$$h
 case S=>let nd:=F6.nd;let lk:j7 "_law_purse_here":=⟨trivial⟩;$("h")
 clear T F;ext ds r h;unfold og at h;$$$$$h
 .ext1 c;$$$h;rw[Px];ext(n:c ≥ 10 ^ 18)
  .rw[if_pos n];$$$(uK ?e)
   case e =>
    $$$(dS ?C ?D)
    case C=>$("v")
    case D =>
     $$$(dR ?G)
     case G =>
      $$$(dS ?I ?J)
      case I=>$("v")
      case J =>
       $$$(dR ?L)
       case L =>
        $$$(dS ?M ?N)
        case M =>
         $$$(xX ?O ?Q)
         case O=>$ρ
         case Q =>
          $$$((AN (CV c) vG (λs=>0<=s.1/\s.1<2147483647) _ (c%2147483647,1,al) {∅,∅} ?st).2)
          case st =>
           ext x hx s i;let(k,rfl,p,q):=tV hx;let(a,b,o):=s;let(j,l):=i;let t:dX a a=bd:=jP (by dsimp at j l;$_);let u:dX 48271 k=bd:=jP ∅;let v:dX (48271*k) k=bd:=jP ∅;let y:dX b 2147483587=bd:=jP ⋯;let n1:0<=(a*a+48271*k*k+k+3)%2147483629:=aaV _ ⋯;let n2:(a*a+48271*k*k+k+3)%2147483629<2147483629:=aas _ ⋯;let z:dX ((a*a+48271*k*k+k+3)%2147483629) ((a*a+48271*k*k+k+3)%2147483629)=bd:=jP ∅;$$$({{n1,adL n2 ⋯},?g})
           case g =>
            cases o with
            | none=>$({_,ρ,by$("v")})
            | some d=>$({_,ρ,by$("v")})
        case N =>
         $$$(dR ?R)
         case R=>$("v")
  rw[if_neg n];$$$(uK ?e)
  case e =>
   $$$(dS ?C ?D)
   case C=>$("v")
   case D =>
    $$$(dR ?G)
    case G =>
     $$$(dS ?I ?J)
     case I=>$("v")
     case J =>
      $$$(dR ?L)
      case L =>
       $$$(dS ?M ?N)
       case M =>
        $$$(xX ?O ?Q)
        case O=>$ρ
        case Q =>
         $$$((AN (CV c) vG (λs=>0<=s.1/\s.1<2147483647) _ (c%2147483647,1,al) {∅,∅} ?st).2)
         case st =>
          ext x hx s i;let(k,rfl,p,q):=tV hx;let(a,b,o):=s;let(j,l):=i;let t:dX a a=bd:=jP (by dsimp at j l;$_);let u:dX 48271 k=bd:=jP ∅;let v:dX (48271*k) k=bd:=jP ∅;let y:dX b 2147483587=bd:=jP ⋯;let n1:0<=(a*a+48271*k*k+k+3)%2147483629:=aaV _ ⋯;let n2:(a*a+48271*k*k+k+3)%2147483629<2147483629:=aas _ ⋯;let z:dX ((a*a+48271*k*k+k+3)%2147483629) ((a*a+48271*k*k+k+3)%2147483629)=bd:=jP ∅;$$$({{n1,adL n2 ⋯},?g})
          case g =>
           cases o with
           | none=>$({_,ρ,by$("v")})
           | some d=>$({_,ρ,by$("v")})
       case N =>
        $$$(dR ?R)
        case R=>$("v")
 $$$h
end
structure bC (x:ew):Prop where
 fu:x.cps.all (·<128)=bd
 len:x.length<=99
def C6 (h:x.cps.all (·<128)=bd):o3 x=bd:=by delta o3;rw[qo]at h ⊢;ext c a;let:=h c a;lia
def bC.ok (h:bC x):o3 x=bd:=C6 h.fu
def pD(p:Int×Int):Dat:=.L [.int p.1,.int p.2]
def br(p:Int×Int)(m:Int):Int:=if p.1=0 then p.2%m else p.1%m
def cQ(p:Int×Int)(m:Int):Int×Int:=if p.1=0 then(0,p.2/m)else(p.1/m,p.2)
theorem fQ(p:Int×Int)(m:Int)(h:0<m/\m.natAbs.log2<9000):gn (pD p) [.int m]=ac (.D<|.int<|br p m,pD<|cQ p m):=by unfold gn pD br cQ;dsimp;rw[if_pos h];split<;>rfl
theorem fU(p:Int×Int){m:Int}(h:0<m):0<=br p m/\br p m<m:=by
 $$(br);split
 .$({aaV _ ∅,aas _ h})
 $({aaV _ ∅,aas _ h})
def uV{m:Int}(h:m.natAbs<2 ^ 9000):m.natAbs.log2<9000:=by
 ext(z:m.natAbs=0)
 .rw[z];decide
 exact(ad2 z).2 h
theorem CB{b:Type}{xs:List b}{i:Int}(h:0<=i)(h':i<xs.length):∃x,eE xs i=ac x/\xs[i.toNat]?=ac x:=by
 let a:i.toNat<xs.length:=∅
 $({xs[i.toNat],?_,b8 a});let:=nh (xs:=xs) (j:=i.toNat)<|b8 a;rw[ti h]at this;$this
def oK(ds)(i):dJ (.L ds) (.int i)=eE ds i:=ρ
def gw(c:Nat):Bool:=am (97<=c)&&am (c<=122)
def dM(x:ew):Bool:=am (x="north")||am (x="east")||am (x="south")||am (x="west")
def cy(x:ew):Bool:=am (0<x.length)&&am (x.length<9)&&x.cps.toList.all gw&&!dM x
def QX(c):((!am (([c]:List Nat)<[97]))&&!am (([122]:List Nat)<[c]))=gw c:=by
 delta gw;let a:am (([c]:List Nat)<[97])=am (c<97):=by apply qh.2;simp[aaE]
 let b:am (([122]:List Nat)<[c])=am (122<c):=by apply qh.2;simp[aaE]
 rw[a,b];ext(d:97<=c)<;>ext(e:c<=122)<;>simp[d,e]<;>$_
def Gj (h:bC x):x.length<=sizeLine:=m3 h.len (by$$(a9);decide)
def Gd{x:ew}(hx:o3 x=bd){ys:List ew}(b:∀y∈ys,o3 y=bd)(neg:Bool):iO neg (.str x) (.L<|ys.map .str)=ac (.D<|.bl (if neg then !(ys.any λy=>am<|y=x)else ys.any λy=>am<|y=x)):=by
 let c:bL (.L<|ys.map .str)=bd:=lj (by show(ys.map Dat.str).all fW=bd;rw[ib];ext d hd;let(y,a,rfl):=a5.1 hd;$(b y a))
 show(if(bL (.str x)&&bL (.L<|ys.map .str))=bd then ac (Res.D<|.bl (if neg then !inD (.str x) (ys.map .str)else inD (.str x) (ys.map .str)))else al)=_;rw[gv hx,c];let e:inD (.str x) (ys.map .str)=ys.any λy=>am (y=x):=by rw[vo,ady];apply congrArg;funext y;$(kh y x)
 rw[e];rfl
def Mf{x:ew}(hx:o3 x=bd){ys:List ew}(b:∀y∈ys,o3 y=bd)(neg:Bool):iO neg (.str x) (.U<|ys.map .str)=ac (.D<|.bl (if neg then !(ys.any λy=>am<|y=x)else ys.any λy=>am<|y=x)):=by
 let c:bL (.U<|ys.map .str)=bd:=lj (by show(ys.map Dat.str).all fW=bd;rw[ib];ext d hd;let(y,a,rfl):=a5.1 hd;$(b y a))
 show(if(bL (.str x)&&bL (.U<|ys.map .str))=bd then ac (Res.D<|.bl (if neg then !inD (.str x) (ys.map .str)else inD (.str x) (ys.map .str)))else al)=_;rw[gv hx,c];let e:inD (.str x) (ys.map .str)=ys.any λy=>am (y=x):=by rw[vo,ady];apply congrArg;funext y;$(kh y x)
 rw[e];rfl
def nP:List Str:=["north","east","south","west"]
def Io:∀y∈nP,o3 y=bd:=by decide +kernel
def ue(x):(nP.any λy=>am<|y=x)=dM x:=by delta nP dM;simp?[W0,List.any_nil,Bool.or_false,eq_comm (a:=x),Bool.or_assoc]
def PC (hx:o3 x=bd)(neg):iO neg (.str x) (.L [.str "north",.str "east",.str "south",.str "west"])=ac (.D<|.bl (if neg then !dM x else dM x)):=by let:=Gd hx Io neg;rwa[ue]at this
def oj (hx:o3 x=bd)(neg):iO neg (.str x) (.U [.str "north",.str "east",.str "south",.str "west"])=ac (.D<|.bl (if neg then !dM x else dM x)):=by let:=Mf hx Io neg;rwa[ue]at this
section
variable{P:hE}{w:iR}{K:e6}{mg:ew->Option bt}{base:k7}
def y9(fn:aJ):Prop:=∀x,bC x->fn [.str x]=ac (.D<|.bl<|cy x)
theorem TQ(T:Txt mg)(m:eB K mg "WALLS" (.U [.str "north",.str "east",.str "south",.str "west"]))(o:eB K mg "LONGEST_NAME" (.int 8)){f:cA}{j:gi}(F:ba K "is_name" "is_name" x6 f j):∃fn,aS P w K mg base aT 1 f j ["thing"] (ay K fn)/\y9 fn:=by
 $$$(bQ F EO (n:=1) ρ ?C ?B)
 case C=>let nd:=EO.nd;$("h")
 clear T F m o;ext x tx;let iw:=oj tx.ok false;let i1:iG (.str x) "str"=ac true:=ρ;let hl:du (.str x)=ac x.length:=if_pos<|Gj tx;$$$(bT ρ ?w);show WS _ [.D (.str x)] _;$("w");$("wif");$({λhw=>?_,λhw=>?_})
 .let hw:dM x=bd:=hw;$("w");$(fh ?_);$$(cy);rw[hw];simp
 let hw:dM x=bi:=hw;$("w");$("wif");$({λb=>?_,λb=>?_})
 .$("w");$(fh ?_);$$(cy);simp at b;simp;ext k l;$_
 $("w");$$$(sk<|lS<|l6<|fZ<|jS (pF (λx=>[.no,.D x]) (λ_=>true) (λd=>match d with|.str y=>.bl (y.cps.toList.all gw)|_=>.aP) (Ij ?i tx.fu) ρ ?z ?g ?c ?e ?n)<|lR ?q)
 case i=>$("v")
 case z=>rw[a8,sb];$(Gj tx)
 case g=>ext y a Z hd;let rfl||(z,rfl):=hd<;>rfl
 case c=>ext y a;rfl
 case e=>ext y a _;let(c,p,rfl):=a5.1 a;show jk eP eP (fC<|.str "a") (cS 1) (fC<|.str "z") [.no,.D<|.str ⟨#[c]⟩]=ac (.bl<|([c]:List Nat).all gw,[.no,.D<|.str ⟨#[c]⟩]);let r:eP (.str "a") (.str ⟨#[c]⟩)=ac (.D<|.bl<|!am (([c]:List Nat)<[97])):=ρ;let t:eP (.str ⟨#[c]⟩) (.str "z")=ac (.D<|.bl<|!am (([122]:List Nat)<[c])):=ρ;let:=yF (o1:=eP) (o2:=eP) (f:=fC<|.str "a") (g:=cS 1) (h:=fC<|.str "z") (Z:=[.no,.D<|.str ⟨#[c]⟩]) ρ ρ r ρ t;rw[this,QX];simp
 case n=>ext y a;rfl
 let e:((x.cps.toList.map λc=>Dat.str ⟨#[c]⟩).filter λ_=>true).map (λd=>match d with|.str y=>Dat.bl (y.cps.toList.all gw)|_=>Dat.aP)=x.cps.toList.map λc=>Dat.bl (gw c):=by rw[aaU.2 (by intros;rfl),fm];apply sH;ext c p;simp
 $({.D<|.bl<|cy x,?_,_,ρ});show ou [.L _]=_;rw[e];show(jv _).map _=_;rw[rN];simp at b;let k:am (0<x.length)=bd:=by simp;$_
 let l:am (x.length<9)=bd:=by simp;$_
 simp[cy,hw,k,l,aft,Function.comp]
end
abbrev Fl:=IA ew
def az(x:ew×Ob):Dat:=.U [.str x.1,.int x.2.l,.int x.2.b,.int x.2.r,.int x.2.t]
def aC(rs:Fl):Dat:=.L<|rs.map az
section
variable{P:hE}{w:iR}{K:e6}{mg:ew->Option bt}{base:k7}
def gu:Dat->Bool
 |.int _=>true
 |.str x=>o3 x
 |_=>false
def dF(sh:Dat->Bool):Dat->Bool
 |.U ds=>ds.all sh&&am (ds.length<=100)
 |.L ds=>ds.all sh&&am (ds.length<=100)
 |d=>gu d
def AY(sh:Dat->Bool)(fn:aJ):Prop:=∀d,sh d=bd->fn [d,d]=ac (.D<|.bl true)
theorem G0(xs:List Dat):pM [.L xs]=ac (.D<|.int xs.length):=ρ
theorem Cw{ds:List Dat}{sh:Dat->Bool}(h:ds.all sh=bd){i:Int}{d:Dat}(e:eE ds i=ac d):sh d=bd:=by
 unfold eE at e;cases a:iT ds.length i with
 |none=>rw[a]at e;$$$e
 |some j=>rw[a]at e;$((ib.1 h) d<|eK e)
theorem vZ(T:Txt mg){k:Nat}{sh:Dat->Bool}{j:aJ}(t:aN P w K mg base "_law_same" (k+1) (ay K j))(q:AY sh j)(u:aN P w K mg base "_law_whole" 1 (ay K iP)){f:cA}{r:gi}(F:ba K "_law_same" "_law_same" AK f r):∃fn,aS P w K mg base aT (k+2) f r ["_law_found","_law_due"] (ay K fn)/\AY (dF sh) fn:=by
 $$$(bQ F Dn (n:=2) ρ ?R ?C)
 case R=>ext cdv A outer s H E v;let nd:=Dn.nd;$$$T;let hr1:bS 1 _:=v.mono ∅;$("S")
 clear T F t u;ext d hd;$$$(bT ρ ?w);show WS _ [.D d,.D d] _;cases d with
 | int i=>let hw:=Tt i;$("w");$("wif");$({λh=>(by$$$h),λ_=>?_});$("w");$("wif");$({λh=>(by$$$h),λ_=>?_});$("w");$(fh ?_);simp
 | str x=>let hx:o3 x=bd:=hd;$("w");$("wif");$({λh=>(by$$$h),λ_=>?_});$("w");$("wif");$({λ_=>?_,λh=>(by$$$h)});$("w");$(fh ?_);simp[pX,v8]
 |U ds =>
  $("w");$("wif");$({λ_=>?_,λh=>(by$$$h)});$("w");$("wif");$({λh=>(by rw[F2]at h;$$$h),λ_=>?_});let b:=hd;simp?[dF,ec,decide_eq_true_eq]at b;let(l,S):=b;let U:du (.U ds)=ac ds.length:=ρ;$("w");$("wif");$({λh=>(by rw[kc]at h;simp at h),λ_=>?_});$$$(bp<|au<|ao ?_);$$$(sk ?_);$$$(Fi ?_);$$$(fZ ?_);$$$(lS ?_);$$$(l6 ?_);$$$(fZ ?_);$$$(jS (pF (xs:=dY 0 ds.length) (λx=>[.no,.D x,.D<|.U ds,.D<|.U ds]) (λ_=>false) (λd=>d) ?D ?B ?G ?I ?J ?L ?M) ?N)
  case D =>
   $$$(mr ?O ?Q)
   case O=>$("v")
   case Q=>$_
  case B=>$ρ
  case G=>unfold dY a9;simp;$_
  case I=>ext y a Z hd;let rfl||(z,rfl):=hd<;>rfl
  case J=>ext y a;let(i,rfl,m,o):=tV a;let(e,g,_):=CB (xs:=ds) m o;let c:dJ (.U ds) (.int i)=ac e:=g;let p:=q e<|Cw l g;$(gE<|eC (ah (aE (ae (dD ρ ρ ρ c)<|ae (dD ρ ρ ρ c) ak) p) ρ) ρ)
  case L=>ext y a h;$$$h
  case M=>ext y a;rfl
  case N=>rw[abt.2 (by intros;simp)];$(lR {_,G0 _,?_});$(xV (d:=.int 0) ρ {_,ui,fh (by rfl)})
 |L ds =>
  $("w");$("wif");$({λ_=>?_,λh=>(by$$$h)});$("w");$("wif");$({λh=>(by rw[F2]at h;$$$h),λ_=>?_});let b:=hd;simp?[dF,ec,decide_eq_true_eq]at b;let(l,S):=b;let U:du (.L ds)=ac ds.length:=ρ;$("w");$("wif");$({λh=>(by rw[kc]at h;simp at h),λ_=>?_});$$$(bp<|au<|ao ?_);$$$(sk ?_);$$$(Fi ?_);$$$(fZ ?_);$$$(lS ?_);$$$(l6 ?_);$$$(fZ ?_);$$$(jS (pF (xs:=dY 0 ds.length) (λx=>[.no,.D x,.D<|.L ds,.D<|.L ds]) (λ_=>false) (λd=>d) ?D ?B ?G ?I ?J ?L ?M) ?N)
  case D =>
   $$$(mr ?O ?Q)
   case O=>$("v")
   case Q=>$_
  case B=>$ρ
  case G=>unfold dY a9;simp;$_
  case I=>ext y a Z hd;let rfl||(z,rfl):=hd<;>rfl
  case J=>ext y a;let(i,rfl,m,o):=tV a;let(e,g,_):=CB (xs:=ds) m o;let c:dJ (.L ds) (.int i)=ac e:=g;let p:=q e<|Cw l g;$(gE<|eC (ah (aE (ae (dD ρ ρ ρ c)<|ae (dD ρ ρ ρ c) ak) p) ρ) ρ)
  case L=>ext y a h;$$$h
  case M=>ext y a;rfl
  case N=>rw[abt.2 (by intros;simp)];$(lR {_,G0 _,?_});$(xV (d:=.int 0) ρ {_,ui,fh (by rfl)})
 |_=>$$$hd
def EI (h:0<=i)(h':i<26):dJ (.str "abcdefghijklmnopqrstuvwxyz") (.int i)=ac (.str ⟨#[97+i.toNat]⟩):=by
 let key:∀j:Fin 26,(cm "abcdefghijklmnopqrstuvwxyz").cps.toList[j.val]?=ac (97+j.val):=by decide +kernel
 let e:=key {i.toNat,by lia};let a:=nh e;rw[ti h]at a;show(if(cm "abcdefghijklmnopqrstuvwxyz").length<=a9 then(eE (cm "abcdefghijklmnopqrstuvwxyz").cps.toList i).map (λc=>Dat.str ⟨#[c]⟩)else al)=_;rw[if_pos (by rw[show(cm "abcdefghijklmnopqrstuvwxyz").length=26 from by decide +kernel];$$(a9);decide),a];rfl
def uc{n:Int}{k:Nat}{x:Dat}(h:(dY 0 n)[k]?=ac x):(k:Int)<n/\x=.int k:=by let a:=(bg.1 h).1;unfold dY at a h;rw[ee]at h;simp?[a8,aab]at a;rw[abX a]at h;simp at h;$({by lia,h.symm})
def sg (h:(Z[i]?).bind ownOf=ac (false,.L xs))(a:fa Z=ac ([d],Z))(b:xs.length<a9):iM i pV fa Z=ac (.aP,Z.set i<|.O<|.L<|xs++[d]):=by delta iM;rw[h];rw[a];show((Z[i]?).bind ownOf).bind _=_;rw[h];show(if xs.length<a9 then ac (Dat.aP,Dat.L<|xs++[d])else al).map _=_;rw[if_pos b];rfl
theorem join_one:∀cs:List Nat,(wm (cm "") (cs.map λc=>(⟨#[c]⟩:ew))).cps.toList=cs
 |[]=>rfl
 |[c]=>rfl
 | c::d::r=>by
  let e:(cm "").cps=#[]:=by decide +kernel
  show((⟨#[c]⟩:ew)++cm "" ++ wm (cm "") ((d::r).map λc=>(⟨#[c]⟩:ew))).cps.toList=_;simp?[zd,e,r3,join_one (d::r)];simp
def R5(cs):(kH (cm "") (cs.map λc=>(⟨#[c]⟩:ew))).cps.toList=cs:=by delta kH;rw[adf];$(join_one cs)
theorem Fz (f):∀cs:List a,d7 (cs.map λc=>.str<|f c)=ac (cs.map f)
 |[]=>rfl
 |c::cs=>by simp?[fR,d7,Fz f cs];rfl
theorem O8(cs:List Nat):((cs.map λc=>(⟨#[c]⟩:ew)).map (·.length)).sum=cs.length:=by
 induction cs with
 |nil=>rfl
 |cons c cs a=>simp?[fR,fR,pR,a,fq];show 1+_=_;lia
structure kg (c:Nat) (x:ew):Prop where
 fst:x.cps.toList[0]?=ac c
 fu:∀a∈x.cps.toList,gw a=bd
 len:x.cps.toList.length<=8
theorem kg.text{c:Nat}{x:ew}(h:kg c x):bC x:=⟨by
 rw[qo];ext a b;let:=h.fu a<|qt.2 b;unfold gw at this;simp?[ec,decide_eq_true_eq,decide_eq_true_eq]at this;simp
 lia,by let:=h.len;simp?[sb]at this;$(m3 this ⋯)⟩
def l3(a:Int)(k:Nat):Nat:=97+((a+7*(k:Int))%26).toNat
theorem Nt{a:Int}{i j:Nat}(hi:i<12)(hj:j<12)(h:l3 a i=l3 a j):i=j:=by unfold l3 at h;$_
def E8{i:Int}(h:0<=i)(h':i<26):gw (97+i.toNat)=bd:=by delta gw;simp;lia
def kg.nm (h:kg c x)(hw:dM x=bi):cy x=bd:=by let b:=h.len;let a:=(bg.1 h.fst).1;let b:x.length<=8:=b;let a:0<x.length:=a;delta cy;simp?[hw,decide_eq_true a,decide_eq_true (by lia:x.length<9),ib.2 h.fu];rfl
theorem Ml(x):dM (x++cm "x")=bi:=by
 cases e:dM (x++cm "x")with
 |false=>rfl
 |true =>
  let key:∀y∈nP,y.cps.toList.getLast?≠ac 120:=by decide +kernel
  let:(nP.any λy=>am<|y=x++cm "x")=bd:=by rw[ue];$e
  let(y,a,e):=ll.1 this;let e:y=x++cm "x":=by$$$$e
  $(absurd ?_<|key y a);simp?[e,zd,r3,show(cm "x").cps.toList=[120]from by decide +kernel];simp
def NY(a:List ew):Prop:=a.length=12/\(∀x∈a,cy x=bd)/\a.Nodup
def CZ(fn:dB):Prop:=∀p,∃r a,fn (pD p) []=ac (r,a)/\∃b c,r=.O (.L<|b.map .str)/\a=pD c/\NY b
theorem QC(T:Txt mg)(p1:aN P w K mg base "_law_take" 1 (dr K 0 gn)){f:cA}{fd:gi}(F:ba K "_law_names" "_law_names" A9 f fd):∃fn,aS P w K mg base aT 2 f fd ["_law_purse_here"] (dr K 0 fn)/\CZ fn:=by
 refine' pZ (j:=0) F Ga (n:=0) ρ ?I ?post
 case I=>let nd:=Ga.nd;let lk:j7 "_law_purse_here":=⟨trivial⟩;$("h")
 clear T F p1;ext p;let V:=λq=>fQ q 26 {⋯,uV ⋯};let t8:=λq=>fQ q 8 {⋯,uV ⋯};let t1:=V p;$$$(pf ρ ?w);show WS _ [.io (pD p),.no,.no,.no,.no,.no,.no,.no] _;$("w");$$$(e8 (λk Z=>∃(q:Int×Int) (b:List ew) (B u t r:Slot),Z=[.io (pD q),.D<|.str "abcdefghijklmnopqrstuvwxyz",.D<|.int<|br p 26,.O<|.L<|b.map .str,B,u,t,r]/\(∀s∈[B,u,t,r],s=.no\/∃d,s=.D d)/\b.length=k/\∀j x,b[j]?=ac x->kg (l3 (br p 26) j) x/\dM x=bi) (mr (n:=12) ?i (by lia)) ?h0 ?st ?fin)
 case i=>$("v")
 case h0=>$({_,[],.no,.no,.no,.no,ρ,⋯,rfl,?_});ext j x h;$$$h
 case st =>
  ext k x hx Z ⟨q,b,B,u,t,r,rfl,C,J,hw⟩;let hk:=uc hx;let(hk,rfl):=hk;let h4:=C B ⋯;let h5:=C u ⋯;let h6:=C t ⋯;let h7:=C r ⋯;$({[.io (pD q),.D<|.str "abcdefghijklmnopqrstuvwxyz",.D<|.int<|br p 26,.O<|.L<|b.map .str,.D<|.int k,u,t,r],by let rfl||(d,rfl):=h4<;>rfl,?_});let t2:=t8 q;let(l0,l8):=fU q (m:=8) ⋯;let key:WS (gK 5<|pW gn 0<|dm (fC<|.int 8) gm) [.io (pD q),.D<|.str "abcdefghijklmnopqrstuvwxyz",.D<|.int<|br p 26,.O<|.L<|b.map .str,.D<|.int k,u,t,r] (λo=>o=.next [.io (pD<|cQ q 8),.D<|.str "abcdefghijklmnopqrstuvwxyz",.D<|.int<|br p 26,.O<|.L<|b.map .str,.D<|.int k,.D<|.int<|br q 8,t,r]):=by$$$(bc (dz ρ sv ρ t2 ρ) ?_ ρ);let rfl||(d,rfl):=h5<;>rfl
  refine' ao<|key.mono ?_;ext o rfl;$$$(au<|ao ?_);$$$(VM<|Le<|N3<|fZ ?_);$$$(SV (xs:=dY 0<|br q 8) (c0:=pD<|cQ q 8) (λk N Z=>∃(l:Int×Int) (O:Slot) (cs:List Nat),Z=[.no,O,.D<|.str "abcdefghijklmnopqrstuvwxyz",.io<|pD l]/\(O=.no\/∃d,O=.D d)/\N=cs.map (λc=>.str ⟨#[c]⟩)/\cs.length=k/\∀c∈cs,gw c=bd) (mr ?c1 ?c2) ?c3 ?c4 ?c5 ?c6 ?c7 ?c8 ?c9)
  case c1=>$ρ
  case c2=>$_
  case c3=>$ρ
  case c4=>$ρ
  case c5=>$ρ
  case c6=>$({_,_,[],ρ,ι ρ,ρ,ρ,λc hc=>(by$$$hc)})
  case c7=>unfold dY a9;simp?[a8,aab];$_
  case c8 =>
   ext k1 x hx N Z ⟨l,O,cs,rfl,W,rfl,D,Q⟩;$({[.no,.D x,.D<|.str "abcdefghijklmnopqrstuvwxyz",.io<|pD l],by let rfl||(d,rfl):=W<;>rfl,?_});$$$(B' ρ {λh=>(by$$$h),λ_=>?_});let t3:=V l;let(R,G):=fU l (m:=26) ⋯;let ax:=EI R G;$$$(xV (dD (i:=2) ρ (ah (dz ρ sv ρ t3 ρ) ρ) ρ ax) {ρ,?_});$({cQ l 26,_,cs++[97+(br l 26).toNat],ρ,τ {_,ρ},by rw[ft];rfl,by rw[fk,D];rfl,?_});ext c hc;let z||z:=el.1 hc
   .exact Q c z
   cases ka.1 z;$(E8 R G)
  ext N Z ⟨l,O,cs,rfl,W,rfl,D,Q⟩;$({pD l,ρ,_,cs.map (λc=>⟨#[c]⟩),ρ,Fz _ cs,{by decide +kernel,?_},?_})
  .simp?[O8,a8,D];$$(dY);rw[a8,aab];$_
  let D:cs.length=(br q 8).toNat:=by rw[D];$$(dY);rw[a8,aab];lia
  generalize Wb:kH (cm "") (cs.map λc=>(⟨#[c]⟩:ew))=g;let X:g.cps.toList=cs:=by rw[<-Wb];$(R5 cs)
  refine{[.io (pD l),.D<|.str "abcdefghijklmnopqrstuvwxyz",.D<|.int<|br p 26,.O<|.L<|b.map .str,.D<|.int k,.D<|.int<|br q 8,.D<|.str g,r],by let rfl||(d,rfl):=h6<;>rfl,?_};let hm:dX 7 (k:Int)=bd:=MY ⋯;obtain⟨R,G⟩:0<=(br p 26+7*(k:Int))%26/\(br p 26+7*(k:Int))%26<26:={aaV _ ⋯,aas _ ⋯};let ax:=EI R G;let Wc:g.length=cs.length:=by simp?[<-X,sb];rfl
  let hz:(⟨#[97+((br p 26+7*(k:Int))%26).toNat]⟩:ew).length+g.length<=sizeLine:=by rw[Wc];show 1+_<=_;$$(a9);$_
  generalize Y:(⟨#[97+((br p 26+7*(k:Int))%26).toNat]⟩:ew)++g=name;let M:name.cps.toList=(97+((br p 26+7*(k:Int))%26).toNat)::cs:=by simp?[<-Y,zd,r3,X];rfl
  let ha:=pj hz;rw[Y]at ha;let U:kg (l3 (br p 26) k) name:=by
   refine{by rw[M];rfl,?_,by simp?[M,fq];lia};ext a h;rw[M]at h;let z||z:=dV.1 h
   .subst z;$(E8 R G)
   exact Q a z
  refine' au<|ao<|bc (Z2:=[.io (pD l),.D<|.str "abcdefghijklmnopqrstuvwxyz",.D<|.int<|br p 26,.O<|.L<|b.map .str,.D<|.int k,.D<|.int<|br q 8,.D<|.str g,.D<|.str name]) (aq (dD (i:=1) ρ ?d1 ?d4 ax) ?d5 ha) ?d2 ?d3
  case d1=>$("v")
  case d4=>$ρ
  case d5=>$ρ
  case d2=>let rfl||(d,rfl):=h7<;>rfl
  let iw:=PC U.text.ok false;let iw:iO false (.str name) (.L [.str "north",.str "east",.str "south",.str "west"])=ac (.D<|.bl<|dM name):=iw;let be:∀x:ew,kg (l3 (br p 26) k) x/\dM x=bi->∃(Wf:Int×Int) (L:List ew) (B u t r:Slot),[.io (pD l),.D<|.str "abcdefghijklmnopqrstuvwxyz",.D<|.int<|br p 26,.O<|.L<|b.map .str++[.str x],.D<|.int k,.D<|.int<|br q 8,.D<|.str g,.D<|.str x]=[.io (pD Wf),.D<|.str "abcdefghijklmnopqrstuvwxyz",.D<|.int<|br p 26,.O<|.L<|L.map .str,B,u,t,r]/\(∀s∈[B,u,t,r],s=.no\/∃d,s=.D d)/\L.length=k+1/\∀j x,L[j]?=ac x->kg (l3 (br p 26) j) x/\dM x=bi:=by
   ext x wx;$({l,b++[x],_,_,_,_,by rw[ft];rfl,?_,by rw[fk,J];rfl,?_})
   .ext s C;simp?[dV,eT,or_false]at C;let rfl||rfl||rfl||rfl:=C<;>$(τ {_,ρ})
   ext j y v;ext(S:j<b.length)
   .rw[hH S]at v;$(hw j y v)
   rw[hO (by lia)]at v;let:j=k:=by let:=(bg.1 v).1;simp at this;lia
   subst this;rw[J]at v;simp at v;$$v;$wx
  let yq:(b.map Dat.str).length<sizeLine:=by simp?[a8,J];$$(a9);lia
  refine' au<|ao ?_;$("wif");$({λI=>?_,λI=>?_})
  .let Wg:name.length+(cm "x").length<=sizeLine:=by let:=U.text.len;rw[show(cm "x").length=1 from by decide +kernel];$$(a9);lia
   let Wh:name.length<=5:=by
    let key:∀y∈nP,y.length<=5:=by decide +kernel
    let I:dM name=bd:=I;let:(nP.any λy=>am<|y=name)=bd:=by rw[ue];$I
    let(y,v,e):=ll.1 this;let e:y=name:=by$$$$e
    subst e;$(key y v)
   let ha2:=pj Wg;let wx:kg (l3 (br p 26) k) (name++cm "x"):=by
    let ex:(cm "x").cps.toList=[120]:=by decide +kernel
    refine{?_,?_,?_}
    .simp?[zd,r3,M];rfl
    .ext a h;simp?[zd,r3,ex]at h;let z||z:=el.1 h
     .exact U.fu a z
     cases ka.1 z;rfl
    simp?[zd,r3,ex,fk,sb];let:name.cps.size<=5:=Wh;simp;lia
   walk_at "w";$$$(rT (sg ρ ρ yq) ?_);$("w");$(be _ {wx,Ml _})
  walk_at "w";$$$(rT (sg ρ ρ yq) ?_);$("w");$(be _ ⟨U,I⟩)
 ext Z ⟨q,b,B,u,t,r,rfl,C,J,hw⟩;let J:b.length=12:=J;$("w");$({_,_,_,ρ,ρ,b,q,ρ,ρ,J,?_,?_})
 .ext x hx;let(j,S,ej):=nS hx;let:=hw j x (by simp?[b8 S,ej]);$(this.1.nm this.2)
 show b.Pairwise (·≠·);rw[nr];ext i j hi S hij he;let w1:=hw i _<|b8 hi;let w2:=hw j _<|b8 S;rw[he]at w1;let:=w1.1.fst.symm.trans w2.1.fst;let:=Nt ∅ ∅<|Option.some.inj this;lia
end
local macro_rules | `(tactic| walk_at $s:str)=>Mq.go s "0@Qn rrarA|Mk rrarA|Q6 rrarA|PN rrarA|DE.alt&BX rrrarA&T6 rrarA~1@Om rrararrD|NT rDDD|LY jrrrrDA|Jh jrrrrDA|Sh arVhddgD~I@Nd rarA~Z@LA rVddrrrrrrA"
section
variable{P:hE}{w:iR}{K:e6}{mg:ew->Option bt}{base:k7}
def vY (h:f Z=ac (.U ds,Z1)):alt (ly f) (nI f) Z=ac (ds,Z1):=by apply gZ;delta ly;rw[h];rfl
def lY(x:ew×Ob):Bool:=cy x.1&&(am (0<=x.2.l)&&am (x.2.l<x.2.r))&&(am (0<=x.2.b)&&am (x.2.b<x.2.t))
def Fe(fn:aJ):Prop:=∀x:ew×Ob,bC x.1->fn [az x]=ac (.D<|.bl<|lY x)
theorem MQ(T:Txt mg)(w1:eB K mg "ROW_LENGTH" (.int 5)){c:aJ}(e:aN P w K mg base "is_name" 1 (ay K c))(g:y9 c)(i:aN P w K mg base "is_whole" 1 (ay K iP)){f:cA}{d:gi}(F:ba K "is_row" "is_row" Aw f d):∃fn,aS P w K mg base aT 2 f d ["thing"] (ay K fn)/\Fe fn:=by
 $$$(bQ F HN ρ ?C ?B)
 case C=>let nd:=HN.nd;$("h")
 ext x tx;let en:=g x.1 tx;let(n,l,b,r,t):=x;$$$(bT ρ ?w)
 case w =>
  $("w");$("wif");$({λh=>?_,λh=>?_})
  .$("w");apply fh;delta lY;rw[l4]at h;rw[h];rfl
  $("w");$$$(mV<|vp<|uD<|fZ<|lS<|l6<|fZ<|jS (pF (xs:=[.int l,.int b,.int r,.int t]) (λx=>[.no,.D x]) (λ_=>true) (λ_=>.bl true) (vY ρ) ρ ?D ?G ?I ?J ?L) ?M)
  case D=>show 4<=a9;$$(a9);decide
  case G=>ext y a Z hd;let rfl||(z,rfl):=hd<;>rfl
  case I=>ext y a;rfl
  case J=>ext y a _;simp at a;let rfl||rfl||rfl||rfl:=a<;>rfl
  case L=>ext y a;rfl
  $(lR {.D<|.bl true,ρ,true,ρ,λz=>(by$$$z),λ_=>?_});$("w");apply fh;delta lY;rw[aa5]at h;rw[h];rfl
def je(x y:Ob):Int:=mY x.r y.r-imax x.l y.l
def gV(x y:Ob):Int:=mY x.t y.t-imax x.b y.b
def vh(g:Ob->Ob->Int)(fn:aJ):Prop:=∀x y:ew×Ob,fn [az x,az y]=ac (.D<|.int<|g x.2 y.2)
theorem Md(T:Txt mg){f:cA}{a:gi}(F:ba K "width_shared" "width_shared" x8 f a):∃fn,aS P w K mg base aT 1 f a ["row","other"] (ay K fn)/\vh je fn:=by
 $$$(bQ F Eg ρ ?C ?B)
 case C=>$("h")
 ext x y;$$$(bT ρ ?w);dsimp[az];$("w");$({_,ρ})
theorem Vt(T:Txt mg){f:cA}{a:gi}(F:ba K "height_shared" "height_shared" Bn f a):∃fn,aS P w K mg base aT 1 f a ["row","other"] (ay K fn)/\vh gV fn:=by
 $$$(bQ F Fs ρ ?C ?B)
 case C=>$("h")
 ext x y;$$$(bT ρ ?w);dsimp[az];$("w");$({_,ρ})
def Gu:Dat->Ob
 |.U [_,.int l,.int b,.int r,.int t]=>⟨l,b,r,t⟩
 |_=>{0,0,0,0}
def gY(x y:Ob):Bool:=am (0<je x y)&&am (0<gV x y)
def B9(fn:aJ):Prop:=∀(x:ew×Ob) (rs:Fl),rs.length<=1000->fn [az x,aC rs]=ac (.D<|.bl (rs.any λy=>gY x.2 y.2))
theorem N6(T:Txt mg)(g:ik mg){a b:aJ}(i:aN P w K mg base "width_shared" 1 (ay K a))(j:vh je a)(k:aN P w K mg base "height_shared" 1 (ay K b))(l:vh gV b){f:cA}{h:gi}(F:ba K "lies_over" "lies_over" yL f h):∃fn,aS P w K mg base aT 2 f h ["row","rows"] (ay K fn)/\B9 fn:=by
 $$$(bQ F Fx ρ ?C ?B)
 case C=>let nd:=Fx.nd;$$$g;$("h")
 ext x rs hz;$$$(bT ρ ?w);$$$(ao<|sk<|lS<|l6<|fZ<|jS (pF (λy=>[.no,.D y,.D<|az x]) (λ_=>true) (λd=>.bl<|gY x.2<|Gu d) (bX ρ) ρ ?D ?G ?I ?J ?L) ?M)
 case D=>rw[a8];$$(a9);$_
 case G=>ext y e Z hd;let rfl||(z,rfl):=hd<;>rfl
 case I=>ext y e;rfl
 case J=>ext d hd _;let(y,e,rfl):=a5.1 hd;let e1:=j x y;let e2:=l x y;show _=ac (Dat.bl<|am (0<je x.2 y.2)&&am (0<gV x.2 y.2),_);$("v")
 case L=>ext y e;rfl
 let ep:((((rs.map az).filter λ_=>true).map λd=>Dat.bl<|gY x.2<|Gu d))=(rs.map λy=>gY x.2 y.2).map Dat.bl:=by rw[aaU.2 (by intros;rfl),fm,fm];rfl
 $(lR {.D<|.bl (rs.any λy=>gY x.2 y.2),?_,⟨_,ρ⟩});rw[ep];show(jv<|(rs.map λy=>gY x.2 y.2).map Dat.bl).map _=_;rw[show(rs.map λy=>gY x.2 y.2).map Dat.bl=(rs.map λy=>gY x.2 y.2).map (λc=>Dat.bl<|id c)from ρ,rN id];simp
def oR (h:ns≠[]):fP ns∈ns:=by let h0:=ir.2 h;let(h1,_):=argBest_gt (λi=>(ns[i]?).getD 0)<|ns.length-1;delta fP;rw[b8 ∅];$(G' _)
def o5 (h:a∈ns):a<=fP ns:=by let(h1,b):=argBest_gt (λi=>(ns[i]?).getD 0)<|ns.length-1;let(j,c,e):=nS h;let:=b j (by lia);simp?[b8 c,e]at this;$this
def ne_int(i j):fE true (.int i) (.int j)=ac (.D<|.bl<|!am (i=j)):=by rw[va mq mq,kc]
def eq_int(i j):fE false (.int i) (.int j)=ac (.D<|.bl<|am<|i=j):=by rw[v_eq mq mq,kc]
theorem nQ{a:Type}(xs:List a)(k:Nat):cutD xs (ac (k:Int)) al=xs.drop k:=by simp[cutD,GZ,E3,aaw]
theorem mH{a:Type}(xs:List a)(k:Nat):cutD xs al (ac (k:Int))=xs.take k:=by simp[cutD,GZ,E3]
def gQ (h:f Z=ac (d,Z1))(a:g Z1=ac (.int i,Z2))(b:fD d (ac i) al=ac r):iD f (jN g) oF Z=ac (r,Z2):=by delta iD;rw[h];simp;delta jN;rw[a];show(fD d (ac i) al).map _=_;rw[b];rfl
def jt (h:f Z=ac (d,Z1))(h1:g Z1=ac (.int i,Z2))(h2:fD d al (ac i)=ac r):iD f oF (jN g) Z=ac (r,Z2):=by simp![iD,oF,jN]
structure fF (rs:Fl):Prop where
 tx:∀x∈rs,bC x.1
 nu:∀x∈rs,(-(2 ^ 205)<x.2.l/\x.2.l<2 ^ 205)/\(-(2 ^ 205)<x.2.b/\x.2.b<2 ^ 205)/\(-(2 ^ 205)<x.2.r/\x.2.r<2 ^ 205)/\(-(2 ^ 205)<x.2.t/\x.2.t<2 ^ 205)
 aY:rs.length<=50
def cI(rs:Fl):Int:=fP (rs.map λx=>x.2.r)
def cz(rs:Fl):Int:=fP (rs.map λx=>x.2.t)
def nj(rs:Fl):Int:=(rs.map λx=>x.2.area).sum
def me(rs:Fl):Bool:=am (1<=rs.length)&&am (rs.length<=8)&&rs.all lY&&am (ji (rs.map (·.1))=rs.length)&&!((lb rs.length).any λi=>(rs.drop<|i+1).any λy=>gY (rs.getD i ("",{0,0,0,0})).2 y.2)&&am (nj rs=cI rs*cz rs)
def GK(fn:aJ):Prop:=∀rs:Fl,fF rs->fn [aC rs]=ac (.D<|.bl<|me rs)
def Mh(T:Txt mg)(p:ik mg)(w1:eB K mg "MOST_ROOMS" (.int 8))(u:aN P w K mg base "is_row" 2 (ay K k))(v:Fe k)(I:aN P w K mg base "lies_over" 2 (ay K l))(J:B9 l)(L:aN P w K mg base "area" 1 (ay K m))(M:DX m)(F:ba K "is_any_floor" "is_any_floor" Aq f q):∃fn,aS P w K mg base aT 3 f q ["rows"] (ay K fn)/\GK fn:=by
 refine' bQ F Gf (n:=1) ρ ?N ?B
 case N=>let nd:=Gf.nd;$$$p;$("h")
 clear T p F u I L;ext rs ok;$$$(bT ρ ?w);show WS _ [.D (aC rs),.no] _;let O:du (aC rs)=ac rs.length:=by simp[aC,du]
 walk_at "w";$("wif");$({λh=>?_,λh=>?_})
 .walk_at "w";$(fh ?_);grind [me]
 let d:(am (1<=rs.length)&&am (rs.length<=8))=bd:=by rw[aa5]at h;rw[<-h];congr 1<;>$(decide_eq_decide.2 ∅)
 let o:1<=rs.length/\rs.length<=8:=by$$$$d
 let c:rs≠[]:=λz=>by rw[z]at o;simp at o
 let sz:rs.length<=sizeLine:=∅
 walk_at "w";$$$(mV<|vp<|uD<|fZ<|lS<|l6<|fZ<|jS (dy (enc:=az) (xs:=rs) (λx=>[.no,.D<|az x]) (λx=>.bl<|lY x) (bX ρ) ρ sz ?Q ?R ?S) ?U)
 case Q=>ext y b Z hd;let rfl||(z,rfl):=hd<;>rfl
 case R=>ext y b;let e:=v y<|ok.tx y b;$("v")
 case S=>ext y b;rfl
 refine lR {_,xI lY rs,_,ρ,λz=>?_,λz=>?_}
 .walk_at "w";$(fh ?_);$$(me);rw[l4]at z;rw[d,z];rfl
 rw[aa5]at z;$("w");show WS _ [.D (aC rs),.no] _;$$$(mV<|Uy<|jS (aq (zt (λx:ew×Ob=>x.1) (ah (dy (enc:=az) (xs:=rs) (λx=>[.no,.D<|az x]) (λx=>.str x.1) (bX ρ) ρ sz ?V ?W ?X) ρ) ?Y) (eG ρ O)<|ne_int _ _) ⟨_,ρ,λj=>?t1,λj=>?t2⟩)
 case V=>ext y b Z hd;let rfl||(z,rfl):=hd<;>rfl
 case W=>ext y b;rfl
 case X=>ext y b;rfl
 case Y=>$_
 case t1 =>
  walk_at "w";$(fh ?_);$$(me);let:am (ji (rs.map (·.1))=rs.length)=bi:=by simp?[l4,decide_eq_false_iff_not]at j;$(decide_eq_false<|λz=>j (by rw[z]))
  rw[d,z,this];rfl
 let hd:am (ji (rs.map (·.1))=rs.length)=bd:=by simp?[aa5,decide_eq_true_eq]at j;$(decide_eq_true ∅)
 walk_at "w";show WS _ [.D (aC rs),.no] _;$$$(mV<|uD<|fZ<|lS<|l6<|fZ<|jS (dy (enc:=λi:Nat=>Dat.U [.int (i:Int),(rs.map az).getD i .aP]) (xs:=lb (rs.map az).length) (λi=>[.no,.D<|.int (i:Int),.D<|(rs.map az).getD i .aP,.D<|aC rs]) (λi=>.bl ((rs.drop<|i+1).any λy=>gY (rs.getD i ("",⟨0,0,0,0⟩)).2 y.2)) (Qz ρ) ρ ?p3 ?p4 ?p6 ?p7) ?p8)
 case p3=>rw[aab,a8];$sz
 case p4=>ext y b Z hd;let rfl||(z,rfl):=hd<;>rfl
 case p6 =>
  ext i hi;let hi:i<rs.length:=by rw[aah,a8]at hi;$hi
  let e0:(rs.map az).getD i .aP=az (rs.getD i ("",{0,0,0,0})):=by rw[kq,ee,kq,b8 hi];rfl
  let e:=J (rs.getD i ("",{0,0,0,0})) (rs.drop<|i+1) (by rw[iW];$_);let es:fD (aC rs) (ac<|(i:Int)+1) al=ac (.O<|aC<|rs.drop<|i+1):=by show ac (Res.O<|.L<|cutD (rs.map az) (ac<|(i:Int)+1) al)=_;rw[show((i:Int)+1)=((i+1:Nat):Int)from by push_cast;rfl,nQ,<-zc];rfl
  rw[e0];refine ah (aE (ae ρ<|ae (ah (gQ ρ (ah (aq ρ ρ ρ) ρ) es) ρ) ak) e) ρ
 case p7=>ext y b;rfl
 refine lR {_,Fm _ _,_,ρ,λg=>?_,λg=>?_}
 .walk_at "w";$(fh ?_);$$(me);rw[a8]at g;rw[d,z,hd,g];rfl
 rw[a8]at g;$("w");show WS _ [.D (aC rs),.no] _;$$$(bc (gZ<|aq (ah (aE (ae (ah (dy (enc:=az) (xs:=rs) (λx=>[.no,.D<|az x]) (λx=>.int x.2.r) (bX ρ) ρ sz ?m4 ?m6 ?m7) ρ) ak)<|Bz (λx:ew×Ob=>x.2.r) c) ρ) (ah (aE (ae (ah (dy (enc:=az) (xs:=rs) (λx=>[.no,.D<|az x]) (λx=>.int x.2.t) (bX ρ) ρ sz ?n4 ?n6 ?n7) ρ) ak)<|Bz (λx:ew×Ob=>x.2.t) c) ρ)<|kD ?D) ρ<|au ?C)
 case m4=>ext y b Z hd;let rfl||(z,rfl):=hd<;>rfl
 case m6=>ext y b;rfl
 case m7=>ext y b;rfl
 case n4=>ext y b Z hd;let rfl||(z,rfl):=hd<;>rfl
 case n6=>ext y b;rfl
 case n7=>ext y b;rfl
 case D =>
  let(x,hx,ex):=a5.1<|oR (ns:=rs.map λx=>x.2.r) (by$$$$c);let(y,b,ey):=a5.1<|oR (ns:=rs.map λx=>x.2.t) (by$$$$c);let a1:=(ok.nu x hx).2.2.1;let a2:=(ok.nu y b).2.2.2;$(zE ?_ ?_)
  .rw[<-ex];$_
  rw[<-ey];$_
 show WS _ [.D (aC rs),.D<|.int<|cI rs*cz rs] _;$$$(ao<|sk<|jS (aq (ah (aE (ae (ah (dy (enc:=az) (xs:=rs) (λx=>[.no,.D<|az x]) (λx=>.int x.2.area) (bX ρ) ρ sz ?o4 ?o6 ?o7) ρ) ak)<|VU (λx:ew×Ob=>x.2.area) rs) ρ) ρ<|eq_int _ _) ?G)
 case o4=>ext y b Z hd;let rfl||(z,rfl):=hd<;>rfl
 case o6=>ext y b;let a:=ok.nu y b;$(ah (aE (ae ρ ak)<|M _ _ _ _ _<|zE ∅ ∅) ρ)
 case o7=>ext y b;rfl
 refine fh ?_;$$(me);rw[d,z,hd,g];rfl
def bf(k:Nat):Str:=if k=0 then"north" else if k=1 then"east" else if k=2 then"south" else"west"
def nN(x y:Ob):Option Nat:=if 0<je x y/\gV x y=0 then(if y.b=x.t then ac 0 else ac 2)else if je x y=0/\0<gV x y then(if y.l=x.r then ac 1 else ac 3)else al
def d9(k:Nat)(y:Ob):Int:=if k=0 then y.l else if k=1 then -y.b else if k=2 then -y.l else y.b
def aK(ns:List ew):List Str:=match ns.findIdx? (λx=>am<|x=dn ns)with
 |some i=>ns.drop i++ns.take i
 |none=>ns
theorem ki{ns:List ew}(h:ns≠[]):dn ns∈ns:=by
 let h0:0<ns.length:=ir.2 h;let key:∀(a:Nat->Nat->Bool) (k:Nat),ace a k<=k:=λa k=>by
  induction k with
  |zero=>$(eS _)
  |succ k ih=>dsimp[ace];split<;>lia
 unfold dn;let:=key (λi j=>am<|((ns[i]?).getD ow).cps.toList<((ns[j]?).getD ow).cps.toList)<|ns.length-1;rw[b8 ∅];$(G' _)
theorem sM{ns:List ew}(a:∀x∈ns,bC x){m:ew}(hm:bC m):r8 (.str m) (ns.map .str)=ns.findIdx? (λx=>am<|x=m):=by
 delta r8;induction ns with
 |nil=>rfl
 |cons x ns b=>show((toPy<|.str x)::cR (ns.map .str)).findIdx? _=_;let ex:qe (toPy<|.str x) (toPy<|.str m)=am (x=m):=kh x m;simp?[ab7,ex,b λy c=>a y<|eH _ c]
def oO{ns:List ew}(a:∀x∈ns,bC x):bL (.L<|ns.map .str)=bd:=lj (by show(ns.map Dat.str).all fW=bd;rw[ib];ext d hd;let(x,hx,rfl):=a5.1 hd;$((a x hx).ok))
def sU (h:f Z=ac (.L ds,Z1))(a:fa Z1=ac ([d],Z2))(b:bL (.L ds)=bd)(c:bL d=bd)(e:r8 d ds=ac j):rK f fa Z=ac (.int (j:Int),Z2):=by delta rK;rw[h];dsimp[gD];rw[a];show(if bL (.L ds)&&bL d then _ else al)=_;simp?[b,c,e];rfl
def rA(fn:aJ):Prop:=∀ns:List ew,ns≠[]->ns.length<=1000->(∀x∈ns,bC x)->fn [.L (ns.map .str)]=ac (.O<|.L<|(aK ns).map .str)
theorem Si(T:Txt mg){f:cA}{d:gi}(F:ba K "begun_at_first" "begun_at_first" y6 f d):∃fn,aS P w K mg base aT 1 f d ["ring"] (ay K fn)/\rA fn:=by
 refine' bQ F Dy (n:=1) ρ ?C ?B
 case C=>let nd:=Dy.nd;$("h")
 clear T F;ext ns a hz b;$$$(bT ρ ?w);show WS _ [.D (.L<|ns.map .str),.no] _;let h:=oO b;obtain⟨j,c⟩:∃j,ns.findIdx? (λx=>am<|x=dn ns)=ac j:=by
  cases e:ns.findIdx? (λx=>am<|x=dn ns)with
  |some j=>$(⟨j,ρ⟩)
  |none=>rw[aan]at e;let:=e _<|ki a;simp at this
 let hj:j<ns.length:=(nk.1 c).1;let g:=b _<|ki a;let em:mN [.L (ns.map .str)]=ac (.D<|.str<|dn ns):=by let:=A2 (λx:ew=>x) a;rw[y0]at this;$this
 refine' ao<|bc (v_res<|sU ρ (ae (ah (aE (ae ρ ak) em) ρ) ak) h (gv g.ok)<|(sM b g).trans c) ρ<|au ?_;show WS _ [.D (.L<|ns.map .str),.D<|.int (j:Int)] _;let i:fD (.L<|ns.map .str) (ac (j:Int)) al=ac (.O<|.L<|(ns.drop j).map .str):=by show ac (Res.O<|.L<|cutD (ns.map Dat.str) (ac (j:Int)) al)=_;rw[nQ,zc]
 let k:fD (.L<|ns.map .str) al (ac (j:Int))=ac (.O<|.L<|(ns.take j).map .str):=by show ac (Res.O<|.L<|cutD (ns.map Dat.str) al<|ac (j:Int))=_;rw[mH,z8]
 refine' ao<|bY (aq (ah (gQ ρ ρ i) ρ) (ah (jt ρ ρ k) ρ)<|eU ?D) ?G
 case D=>simp?[a8,a8,iW,f'];$$(a9);lia
 unfold aK;rw[c,ft];$({_,ρ})
def pairD(x:ew×List ew):Dat:=.U [.str x.1,.L<|x.2.map .str]
theorem GA(l:List (ew×List ew)):firstsD (l.map pairD)=ac (l.map (·.1)):=by
 induction l with
 |nil=>rfl
 |cons x l a=>rw[fR,firstsD,a];rfl
def GV(fn:aJ):Prop:=∀l:List (ew×List ew),l.length<64->(l.map (·.1)).Nodup->(∀x∈l,x.2≠[]/\x.2.length<=1000/\∀y∈x.2,bC y)->fn [.L (l.map pairD)]=ac (.O<|.L<|iH<|(l.map λx=>(x.1,aK x.2)).map pairD)
theorem QH(T:Txt mg){a:aJ}(g:aN P w K mg base "begun_at_first" 1 (ay K a))(h:rA a){f:cA}{c:gi}(F:ba K "in_order" "in_order" yu f c):∃fn,aS P w K mg base aT 2 f c ["web"] (ay K fn)/\GV fn:=by
 $$$(bQ F D8 (n:=1) ρ ?C ?B)
 case C=>ext cdv A outer s H E d;let nd:=D8.nd;$$$T;$("S")
 clear T F g;ext l i j d;$$$(bT ρ ?w);show WS _ [.D (.L<|l.map pairD)] _;let k:iA [.L (l.map λx=>pairD (x.1,aK x.2))]=ac (.O<|.L<|iH<|(l.map λx=>(x.1,aK x.2)).map pairD):=by rw[show(l.map λx=>pairD (x.1,aK x.2))=(l.map λx=>(x.1,aK x.2)).map pairD from by rw[fm];rfl];show(firstsD _).bind _=_;rw[GA];show(if _/\_ then _ else al)=_;rw[if_pos {by rw[fm];$j,by simp?[a8,a8];$i}]
 $$$(ao<|bY (gZ<|aE (ae (ah (dy (enc:=pairD) (xs:=l) (λx=>[.no,.D<|.str x.1,.D<|.L<|x.2.map .str]) (λx=>pairD (x.1,aK x.2)) (bX ρ) ρ ?D ?G ?I ?J) ρ) ak) k) ⟨_,ρ⟩)
 case D=>$$(a9);lia
 case G=>ext y b Z hd;let rfl||(z,rfl):=hd<;>rfl
 case I=>ext y b;let(m,o,p):=d y b;let e:=h y.2 m o p;$(hU (ae ρ<|ae (ah (aE (ae ρ ak) e) ρ) ak) (by simp[a9]))
 ext y b;rfl
def km(rs:Fl):Fl:=[("north",{0,cz rs,cI rs,cz rs+1}),("east",{cI rs,0,cI rs+1,cz rs}),("south",{0,-1,cI rs,0}),("west",{-1,0,0,cz rs})]
def Fr(s:Slot):Prop:=s=.no\/∃d,s=.D d
def jB(x:Ob)(rs:Fl)(k:Nat):List (Int×ew):=(rs.filter λy=>am<|nN x y.2=ac k).map λy=>(d9 k y.2,y.1)
def gN(l:List (Int×ew)):List (Int×ew):=l.mergeSort λa b=>am<|a.1<=b.1
def dE(p:Int×ew):Dat:=.U [.int p.1,.str p.2]
theorem Lv(l:List (Int×ew)):firstsI (l.map dE)=ac (l.map (·.1)):=by
 induction l with
 |nil=>rfl
 |cons x l a=>rw[fR,firstsI,a];rfl
def LC (c:(l.map (·.1)).Nodup)(d:l.length<64):qJ [.L (l.map dE)]=ac (.O<|.L<|(gN l).map dE):=by show(firstsI _).bind _=_;rw[Lv];show(if _/\_ then _ else al)=_;rw[if_pos {c,by rw[a8];$d}];delta gN vT;rw[<-tR (r:=λa b:Int×ew=>am<|a.1<=b.1) (λa _ b _=>rfl)]
theorem Vr (h:l≠[]):iA [.L (l.map dE)]=al:=by
 cases l with
 |nil=>cases h ρ
 |cons x l=>rfl
def Um (b:(l.map (·.1)).Nodup)(c:l.length<64)(a:fa Z=ac ([.L (l.map dE)],Z1)):alt (cE iA fa) (cE qJ fa) Z=ac (.O<|.L<|(gN l).map dE,Z1):=by
 ext(h:l=[])
 .subst h;$(gZ<|aE a ?_);let:gN []=[]:=by$$(gN);simp
  rw[this];show(if([]:List ew).Nodup/\([]:List Dat).length<64 then ac (Res.O<|.L<|iH [])else al)=_;delta iH;simp
 refine rS ?_<|aE a<|LC b c;delta cE;rw[a];show(iA [.L (l.map dE)]).map _=al;rw[Vr h];rfl
def Bf(l):(gN l).length=l.length:=(gj _ _).length_eq
def cV(rs:Fl):List (Int×Int):=tj (rs.map (·.2))
theorem R3{rs:Fl}{k:Nat}{x:ew×Ob}(h:rs[k]?=ac x):cV (rs.take<|k+1)=cV (rs.take k)++iZ x.2:=by unfold cV tj;rw[ac0,h,ft,ad4];simp
def M0:p∈gN l↔p∈l:=(gj _ _).mem_iff
def nJ (b:Z[i]?=ac (.D<|.eQ a))(h:g Z=ac (.str k,Z1))(h':dC a k=ac d):tQ i g Z=ac (d,Z1):=by delta tQ;rw[b];rw[h];show(dC a k).map _=_;rw[h'];rfl
def lN(a:Nat)(x y:Ob):Bool:=if a=1 then am (x.l<y.r)&&am (y.l<x.r)else am (x.b<y.t)&&am (y.b<x.t)
def Ft(fn:aJ):Prop:=∀(x y:ew×Ob) (a:Nat),a=1\/a=2->fn [az x,az y,.int (a:Int)]=ac (.D<|.bl<|lN a x.2 y.2)
theorem Jv(T:Txt mg){f:cA}{a:gi}(F:ba K "_law_over" "_law_over" AI f a):∃fn,aS P w K mg base aT 1 f a ["_law_one","_law_other","_law_low"] (ay K fn)/\Ft fn:=by
 $$$(bQ F Df (n:=3) ρ ?C ?B)
 case C=>let nd:=Df.nd;$("h")
 clear T F;ext x y low (rfl|rfl)
 .$$$(bT ρ ?w)
  case w=>show WS _ [.D (az x),.D<|az y,.D<|.int 1] _;dsimp[az];$("w");$({_,ρ})
 $$$(bT ρ ?w)
 case w=>show WS _ [.D (az x),.D<|az y,.D<|.int 2] _;dsimp[az];$("w");$({_,ρ})
def dw(k:Nat)(x y:Ob):Bool:=if k=0 then am (y.b=x.t)&&lN 1 x y else if k=1 then am (y.l=x.r)&&lN 2 x y else if k=2 then am (y.t=x.b)&&lN 1 x y else am (y.r=x.l)&&lN 2 x y
def cP(rs:Fl)(x:Ob)(k:Nat):List (Int×ew):=(rs.filter λy=>dw k x y.2).map λy=>(d9 k y.2,y.1)
def eZ(rs:Fl)(x:Ob)(k:Nat):List Str:=if cP rs x k=[]then[bf k]else(gN<|cP rs x k).map (·.2)
theorem SU{l:List (Int×ew)}(h:∀p∈l,bC p.2):bL (.L<|l.map dE)=bd:=zG (by rw[ib];ext d hd;let(p,a,rfl):=a5.1 hd;show[Dat.int p.1,.str p.2].all fW=bd;simp[fW,(h p a).ok])
theorem RT{l:List (Int×ew)}(h:∀p∈l,bC p.2):fE false (.L<|l.map dE) (.L [])=ac (.D<|.bl<|am<|l=[]):=by rw[v_eq (SU h) (lj ρ),uT];$$$l<;>rfl
def vF (h:c Z=ac (b,Z1))(a:b=bd)(t:WS s Z1 Q):WS (kR c s s') Z Q:=eA h (λ_=>t)<|λz=>absurd (a.symm.trans z) ⋯
def ni (h:c Z=ac (b,Z1))(a:b=bi)(t:WS s' Z1 Q):WS (kR c s s') Z Q:=eA h (λz=>absurd (a.symm.trans z) ⋯)<|λ_=>t
def B1(fn:aJ):Prop:=∀(rs:Fl) (x:ew×Ob) (k:Nat),k<4->rs.length<64->(∀y∈rs,bC y.1)->((cP rs x.2 k).map (·.1)).Nodup->fn [aC rs,az x,.int (k:Int)]=ac (.O<|.L<|(eZ rs x.2 k).map .str)
def Lj(T:Txt mg)(R:aN P w K mg base "_law_over" 1 (ay K i))(c:Ft i)(F:ba K "_law_side" "_law_side" zA f q):∃fn,aS P w K mg base aT 2 f q ["_law_rows_here","_law_one","_law_way"] (ay K fn)/\B1 fn:=by
 $$$(bQ F Hw (n:=3) ρ ?S ?M)
 case S=>let nd:=Hw.nd;$("h")
 clear T F R;ext rs x k g U u v;$$$(bT ρ ?w);show WS _ [.D (aC rs),.D<|az x,.D<|.int (k:Int),.no,.no,.no,.no,.no,.no] _;$("w");let sz:rs.length<=sizeLine:=by$$(a9);lia
 let tx:∀p∈cP rs x.2 k,bC p.2:=by ext p O;unfold cP at O;let(y,a,rfl):=a5.1 O;$(u y (gg.1 a).1)
 let j:(cP rs x.2 k).length<64:=by$$(cP);rw[a8];$(aa' (abH _ _) U)
 let ep:((rs.filter λy=>dw k x.2 y.2).map λy:ew×Ob=>dE (d9 k y.2,y.1))=(cP rs x.2 k).map dE:=by$$(cP);simp?[fm];rfl
 $$$(WS.mono (Q:=λo=>o=.next [.D (aC rs),.D<|az x,.D<|.int (k:Int),.D<|.str x.1,.D<|.int x.2.l,.D<|.int x.2.b,.D<|.int x.2.r,.D<|.int x.2.t,.O<|.L<|(cP rs x.2 k).map dE]) ?ifs ?N)
 case ifs =>
  clear tx j u v;let g:k=0\/k=1\/k=2\/k=3:=by lia
  let rfl||rfl||rfl||rfl:=g
  .$$$(vF (bB<|aq ρ ρ<|eq_int _ _) ⋯ (ao<|bc (Z2:=[.D (aC rs),.D<|az x,.D<|.int (0:Nat),.D<|.str x.1,.D<|.int x.2.l,.D<|.int x.2.b,.D<|.int x.2.r,.D<|.int x.2.t,.O<|.L<|(cP rs x.2 0).map dE]) (kA (enc:=az) (xs:=rs) (λy=>[.no,.D<|az y,.D<|az x,.D<|.int x.2.t]) (λy=>dw 0 x.2 y.2) (λy=>dE (d9 0 y.2,y.1)) (bX ρ) ?B sz ?C ?D ?G ?I) ?J<|au<|bp ?L))
   case B=>$ρ
   case C=>ext y a Z hd;let rfl||(z,rfl):=hd<;>rfl
   case D=>ext y a;let e:=c x y 1 ⋯;$(js (bB<|aq ρ ρ<|eq_int _ _)<|eC (ah (aE (ae ρ<|ae ρ<|ae ρ ak) e) ρ) ρ)
   case G=>ext y a _;rfl
   case I=>ext y a;rfl
   case J=>rw[ep];rfl
   case L =>
    iterate 3 try $(au<|bp ?_)
    rfl
  .$$$(ni (bB<|aq ρ ρ<|eq_int _ _) ⋯ (ao<|vF (bB<|aq ρ ρ<|eq_int _ _) ⋯<|ao<|bc (Z2:=[.D (aC rs),.D<|az x,.D<|.int (1:Nat),.D<|.str x.1,.D<|.int x.2.l,.D<|.int x.2.b,.D<|.int x.2.r,.D<|.int x.2.t,.O<|.L<|(cP rs x.2 1).map dE]) (kA (enc:=az) (xs:=rs) (λy=>[.no,.D<|az y,.D<|az x,.D<|.int x.2.r]) (λy=>dw 1 x.2 y.2) (λy=>dE (d9 1 y.2,y.1)) (bX ρ) ?B sz ?C ?D ?G ?I) ?J<|au<|bp ?L))
   case B=>$ρ
   case C=>ext y a Z hd;let rfl||(z,rfl):=hd<;>rfl
   case D=>ext y a;let e:=c x y 2 ⋯;$(js (bB<|aq ρ ρ<|eq_int _ _)<|eC (ah (aE (ae ρ<|ae ρ<|ae ρ ak) e) ρ) ρ)
   case G=>ext y a _;rfl
   case I=>ext y a;rfl
   case J=>rw[ep];rfl
   case L =>
    iterate 3 try $(au<|bp ?_)
    rfl
  .$$$(ni (bB<|aq ρ ρ<|eq_int _ _) ⋯ (ao<|ni (bB<|aq ρ ρ<|eq_int _ _) ⋯<|ao<|vF (bB<|aq ρ ρ<|eq_int _ _) ⋯<|ao<|bc (Z2:=[.D (aC rs),.D<|az x,.D<|.int (2:Nat),.D<|.str x.1,.D<|.int x.2.l,.D<|.int x.2.b,.D<|.int x.2.r,.D<|.int x.2.t,.O<|.L<|(cP rs x.2 2).map dE]) (kA (enc:=az) (xs:=rs) (λy=>[.no,.D<|az y,.D<|.int x.2.b,.D<|az x]) (λy=>dw 2 x.2 y.2) (λy=>dE (d9 2 y.2,y.1)) (bX ρ) ?B sz ?C ?D ?G ?I) ?J<|au<|bp ?L))
   case B=>$ρ
   case C=>ext y a Z hd;let rfl||(z,rfl):=hd<;>rfl
   case D=>ext y a;let e:=c x y 1 ⋯;$(js (bB<|aq ρ ρ<|eq_int _ _)<|eC (ah (aE (ae ρ<|ae ρ<|ae ρ ak) e) ρ) ρ)
   case G=>ext y a _;rfl
   case I=>ext y a;rfl
   case J=>rw[ep];rfl
   case L =>
    iterate 3 try $(au<|bp ?_)
    rfl
  $$$(ni (bB<|aq ρ ρ<|eq_int _ _) ⋯ (ao<|ni (bB<|aq ρ ρ<|eq_int _ _) ⋯<|ao<|ni (bB<|aq ρ ρ<|eq_int _ _) ⋯<|ao<|bc (Z2:=[.D (aC rs),.D<|az x,.D<|.int (3:Nat),.D<|.str x.1,.D<|.int x.2.l,.D<|.int x.2.b,.D<|.int x.2.r,.D<|.int x.2.t,.O<|.L<|(cP rs x.2 3).map dE]) (kA (enc:=az) (xs:=rs) (λy=>[.no,.D<|az y,.D<|.int x.2.l,.D<|az x]) (λy=>dw 3 x.2 y.2) (λy=>dE (d9 3 y.2,y.1)) (bX ρ) ?B sz ?C ?D ?G ?I) ?J ?L))
  case B=>$ρ
  case C=>ext y a Z hd;let rfl||(z,rfl):=hd<;>rfl
  case D=>ext y a;let e:=c x y 2 ⋯;$(js (bB<|aq ρ ρ<|eq_int _ _)<|eC (ah (aE (ae ρ<|ae ρ<|ae ρ ak) e) ρ) ρ)
  case G=>ext y a _;rfl
  case I=>ext y a;rfl
  case J=>rw[ep];rfl
  case L =>
   iterate 3 try $(au<|bp ?_)
   rfl
 ext o rfl;$(au<|ao<|eA (bB<|aq ρ ρ<|RT tx) (λh=>?_)<|λh=>?_)
 .let h:=of_decide_eq_true h;$$$(ao (bY (dW (ae (mB (ah (dW (ae ρ<|ae ρ<|ae ρ<|ae ρ ak) (by show 4<=a9;$$(a9);decide)) ρ) ρ (d:=.str<|bf k) ?V) ak) (by show 1<=a9;$$(a9);decide)) ?W))
  case V =>
   let g:k=0\/k=1\/k=2\/k=3:=by lia
   let rfl||rfl||rfl||rfl:=g<;>rfl
  $(fN<|fN ?_);let m:eZ rs x.2 k=[bf k]:=if_pos h;rw[m];$({_,ρ})
 let h:=of_decide_eq_false h;let X:=Um (fa:=dm (cS 8) gm) (Z:=[.D (aC rs),.D<|az x,.D<|.int (k:Int),.D<|.str x.1,.D<|.int x.2.l,.D<|.int x.2.b,.D<|.int x.2.r,.D<|.int x.2.t,.O<|.L<|(cP rs x.2 k).map dE]) v j<|ae ρ ak;$$$(bp (au<|ao<|bY (dy (enc:=dE) (xs:=gN<|cP rs x.2 k) (λp=>[.no,.D<|.int p.1,.D<|.str p.2]) (λp=>.str p.2) (bX<|ah X ρ) ?Y ?b3 ?b4 ?b6 ?b7)<|fN ?b9))
 case Y=>$ρ
 case b3=>rw[Bf];$$(a9);lia
 case b4=>ext y a Z hd;let rfl||(z,rfl):=hd<;>rfl
 case b6=>ext y a;rfl
 case b7=>ext y a;rfl
 let m:eZ rs x.2 k=(gN<|cP rs x.2 k).map (·.2):=if_neg h;rw[m,fm];$({_,ρ})
def dc(rs:Fl)(x:Ob)(n:Nat):List Str:=(lb n).flatMap λk=>eZ rs x k
def mZ(rs)(x)(n):dc rs x (n+1)=dc rs x n++eZ rs x n:=by delta dc;simp?[aeR];simp
theorem HL(rs:Fl)(x:Ob)(k:Nat):(eZ rs x k).length<=rs.length+1:=by
 $$(eZ);split
 .simp
 rw[a8,Bf];$$(cP);rw[a8];let:=abH (λy:ew×Ob=>dw k x y.2) rs;lia
theorem Fh(rs:Fl)(x:Ob)(n:Nat):(dc rs x n).length<=n*(rs.length+1):=by
 induction n with
 |zero=>simp[dc]
 |succ n ih=>simp?[mZ,fk,acs];let:=HL rs x n;lia
theorem VG{rs:Fl}(d:∀y∈rs,bC y.1)(x:Ob){k:Nat}(c:k<4):∀y∈eZ rs x k,bC y:=by
 ext y a;unfold eZ at a;$$$$$a
 .let c:k=0\/k=1\/k=2\/k=3:=by lia
  simp?[dV,eT,or_false]at a;$$a;let rfl||rfl||rfl||rfl:=c<;>$({by decide +kernel,by decide +kernel})
 let(p,b,rfl):=a5.1 a;let b:=M0.1 b;unfold cP at b;let(z,e,rfl):=a5.1 b;$(d z (gg.1 e).1)
theorem J'{rs:Fl}(b:∀y∈rs,bC y.1)(x:Ob):∀y∈dc rs x 4,bC y:=by ext y a;unfold dc at a;let(k,c,a):=aeD.1 a;$(VG b x (aah.1 c) y a)
def JR(rs)(x)(k):eZ rs x k≠[]:=by
 delta eZ;split
 .simp
 ext1 h;ext z;let z:=congrArg List.length z;rw[a8,Bf]at z;$(h<|aaq.1 z)
theorem Q1(rs:Fl)(x:Ob):dc rs x 4≠[]:=by rw[mZ];$(λz=>JR _ _ _ (adx.1 z).2)
def Ao(rs:Fl)(x:Ob):Prop:=∀k,k<4->((cP rs x k).map (·.1)).Nodup
def GB(fn:aJ):Prop:=∀(rs:Fl) (x:ew×Ob),rs.length<64->(∀y∈rs,bC y.1)->Ao rs x.2->fn [aC rs,az x]=ac (.O<|.L<|(aK<|dc rs x.2 4).map .str)
theorem T8(T:Txt mg)(p:ik mg){h:aJ}(u:aN P w K mg base "_law_side" 2 (ay K h))(m:B1 h){f:cA}{q:gi}(F:ba K "_law_ring" "_law_ring" xt f q):∃fn,aS P w K mg base aT 3 f q ["_law_rows_here","_law_one"] (ay K fn)/\GB fn:=by
 $$$(bQ F Im (n:=2) ρ ?J ?C)
 case J=>let nd:=Im.nd;$$$p;$("h")
 clear T p F u;ext rs x v r z;$$$(bT ρ ?w);show WS _ [.D (aC rs),.D<|az x,.no,.no,.no] _;$("w");$$$(e8 (λk Z=>∃b,Fr b/\Z=[.D (aC rs),.D<|az x,.O<|.L<|(dc rs x.2 k).map .str,b,.no]) (mr (n:=4) ?i (by lia)) ?L ?st ?I)
 case i=>$("v")
 case L=>$({.no,ι ρ,ρ})
 case st =>
  ext k y M Z ⟨b,B,rfl⟩;let(hk,rfl):=uc M;$({[.D (aC rs),.D<|az x,.O<|.L<|(dc rs x.2 k).map .str,.D<|.int k,.no],by let rfl||(d,rfl):=B<;>rfl,?_});let l:k<4:=∅
  let e:=m rs x k l v r<|z k l;let hl:=Fh rs x.2 k;let hl2:=HL rs x.2 k;let hm:k*(rs.length+1)<=4*(rs.length+1):=aaQ _ (by lia);$$$(ao<|bc (aq ρ (ah (aE (ae ρ<|ae ρ<|ae ρ ak) e) ρ)<|eU ?D) ?G<|au<|bp ?B)
  case D=>rw[a8,a8];$$(a9);$_
  case G=>$ρ
  $({.D<|.int k,τ ⟨_,ρ⟩,?_});rw[mZ,ft];rfl
 ext Z ⟨b,B,rfl⟩;obtain⟨ns,a⟩:∃ns,ns=dc rs x.2 4:={_,ρ};show WS _ [.D (aC rs),.D<|az x,.O<|.L<|(dc rs x.2 4).map .str,b,.no] _;let c:ns≠[]:=a ▸ Q1 rs x.2;let g:∀y∈ns,bC y:=a ▸ J' r x.2;let hlen:ns.length<=1000:=by let:=Fh rs x.2 4;rw[a];lia
 rw[<-a];let N:=oO g;obtain⟨j,o⟩:∃j,ns.findIdx? (λx=>am<|x=dn ns)=ac j:=by
  cases e:ns.findIdx? (λx=>am<|x=dn ns)with
  |some j=>$(⟨j,ρ⟩)
  |none=>rw[aan]at e;let:=e _<|ki c;simp at this
 let hj:j<ns.length:=(nk.1 o).1;let t:=g _<|ki c;let em:mN [.L (ns.map .str)]=ac (.D<|.str<|dn ns):=by let:=A2 (λx:ew=>x) c;rw[y0]at this;$this
 $$$(ao<|bc (v_res<|sU ρ (ae (ah (aE (ae ρ ak) em) ρ) ak) N (gv t.ok)<|(sM g t).trans o) ρ<|au ?_);show WS _ [.D (aC rs),.D<|az x,.D<|.L<|ns.map .str,b,.D<|.int (j:Int)] _;let m:fD (.L<|ns.map .str) (ac (j:Int)) al=ac (.O<|.L<|(ns.drop j).map .str):=by show ac (Res.O<|.L<|cutD (ns.map Dat.str) (ac (j:Int)) al)=_;rw[nQ,zc]
 let O:fD (.L<|ns.map .str) al (ac (j:Int))=ac (.O<|.L<|(ns.take j).map .str):=by show ac (Res.O<|.L<|cutD (ns.map Dat.str) al<|ac (j:Int))=_;rw[mH,z8]
 $$$(ao<|bY (aq (ah (gQ ρ ρ m) ρ) (ah (jt ρ ρ O) ρ)<|eU ?D) ?G)
 case D=>simp?[a8,a8,iW,f'];$$(a9);$_
 case G=>$$(aK);rw[o,ft];$({_,ρ})
theorem Jq(l:Fl):firstsD (l.map az)=ac (l.map (·.1)):=by
 induction l with
 |nil=>rfl
 |cons x l a=>rw[fR,firstsD,a];rfl
def oH(rs:Fl):Fl:=rs.mergeSort λa b=>dN (az a)<|az b
def HE(rs)(f)(h:∀a∈rs,∀b∈rs,dN (f a) (f b)=dN (az a) (az b)):iH (rs.map f)=(oH rs).map f:=by delta iH oH;rw[<-tR (λa c b d=>(h a c b d).symm)]
def wH(rs:Fl):List Dat:=iH (rs.map λy=>pairD (y.1,aK<|dc rs y.2 4))
def Bw(fn:aJ):Prop:=∀rs:Fl,rs.length<64->(∀y∈rs,bC y.1)->(rs.map (·.1)).Nodup->(∀y∈rs,Ao rs y.2)->fn [aC rs]=ac (.O<|.L<|wH rs)
def Oe(T:Txt mg)(g:ik mg)(j:aN P w K mg base "_law_ring" 3 (ay K c))(k:GB c)(F:ba K "_law_web" "_law_web" xT f h):∃fn,aS P w K mg base aT 4 f h ["_law_rows_here"] (ay K fn)/\Bw fn:=by
 $$$(bQ F FQ (n:=1) ρ ?C ?B)
 case C=>let nd:=FQ.nd;$$$g;$("h")
 clear T g F j;ext rs i l m o;$$$(bT ρ ?w);show WS _ [.D (aC rs)] _;let p:iA [aC rs]=ac (.O<|.L<|(oH rs).map az):=by show(firstsD<|rs.map az).bind _=_;rw[Jq];show(if _/\_ then _ else al)=_;rw[if_pos {m,by rw[a8];$i},HE rs az λa _ b _=>rfl]
 let pm:∀y,y∈oH rs↔y∈rs:=λy=>(gj _ _).mem_iff;let q:(oH rs).length=rs.length:=(gj _ _).length_eq;$$$(ao<|bY (dy (enc:=az) (xs:=oH rs) (λy=>[.no,.D<|az y,.D<|aC rs]) (λy=>pairD (y.1,aK<|dc rs y.2 4)) (bX<|ah (gZ<|aE (ae ρ ak) p) ρ) ?D ?G ?I ?J ?L) ?M)
 case D=>$ρ
 case G=>rw[q];$$(a9);lia
 case I=>ext y d Z hd;let rfl||(z,rfl):=hd<;>rfl
 case J=>ext y d;let e:=k rs y i l<|o y<|(pm y).1 d;$(hU (ae ρ<|ae (ah (aE (ae ρ<|ae ρ ak) e) ρ) ak) (by simp[a9]))
 case L=>ext y d;rfl
 $$(wH);rw[HE rs (λy=>pairD (y.1,aK<|dc rs y.2 4)) λa _ b _=>rfl];$({_,ρ})
def d8(p:Int×Int):Dat:=.U [.int p.1,.int p.2]
theorem VP(p q:Int×Int):dU (d8 p) (d8 q)=am (p=q):=by show dU (.U _) (.U _)=_;rw[xU];show(dU (.int p.1) (.int q.1)&&(dU (.int p.2) (.int q.2)&&true))=_;rw[kc,kc,ab0,qh];simp[Prod.ext_iff]
theorem Th(p:Int×Int)(l:List (Int×Int)):lT (d8 p) (l.map d8)=l.count p:=by
 $$(lT);induction l with
 |nil=>rfl
 |cons x l a=>show((toPy<|d8 x)::cR (l.map d8)).countP _=_;let ex:qe (toPy<|d8 x) (toPy<|d8 p)=am (x=p):=VP x p;simp?[ia,a,List.count_cons,ex];simp
theorem Kb(l:List (Int×Int)):bL (.L<|l.map d8)=bd:=zG (by rw[ib];ext d hd;let(p,hp,rfl):=a5.1 hd;rfl)
theorem v_count{f:DF}{fa:AF}{Z Z1 Z2:DS}{ds:List Dat}{d:Dat}(h:f Z=ac (.L ds,Z1))(a:fa Z1=ac ([d],Z2))(b:bL (.L ds)=bd)(c:bL d=bd):sC f fa Z=ac (.int (lT d ds:Nat),Z2):=by$$(sC);rw[h];dsimp[gD];rw[a];show(if bL (.L ds)&&bL d then _ else al)=_;rw[b,c,afg,if_pos ρ]
def CI(y:ew×Ob):List Slot:=[.D (.str y.1),.D<|.int y.2.l,.D<|.int y.2.b,.D<|.int y.2.r,.D<|.int y.2.t]
def Vl(T:List Slot):Prop:=T=[.no,.no,.no,.no,.no]\/∃y,T=CI y
theorem E1(rs:Fl):(cV rs).length=4*rs.length:=by
 dsimp[cV,tj];rw[List.length_flatMap];induction rs with
 |nil=>rfl
 |cons x l a=>simp?[fR,fR,pR,a,fq];show 4+_=_;lia
def lh(rs:Fl):Bool:=am (∃p∈cV rs,3<(cV rs).count p)
def CQ(fn:aJ):Prop:=∀rs:Fl,rs.length<=50->fn [aC rs]=ac (.D<|.bl<|lh rs)
theorem Tp(T:Txt mg)(d:ik mg){f:cA}{g:gi}(F:ba K "_law_meeting" "_law_meeting" Ba f g):∃fn,aS P w K mg base aT 1 f g ["_law_rows_here"] (ay K fn)/\CQ fn:=by
 $$$(bQ F BL (n:=1) ρ ?D ?B)
 case D=>let nd:=BL.nd;$$$d;$("h")
 clear T d F;ext rs hz;$$$(bT ρ ?w);show WS _ [.D (aC rs),.no,.no,.no,.no,.no,.no] _;$("w");$$$(e8 (λk Z=>∃T,Vl T/\Z=.D (aC rs)::.O (.L<|(cV<|rs.take k).map d8)::T) (bX ρ) ?G ?st ?C)
 case G=>$({_,ι ρ,ρ})
 case st =>
  ext k y a Z ⟨T,i,rfl⟩;rw[ee]at a;let(x,ex,rfl):=gs.1 a;let hk:k<rs.length:=(bg.1 ex).1;$({.D (aC rs)::.O (.L<|(cV<|rs.take k).map d8)::CI x,by let rfl||(y,rfl):=i<;>rfl,?_});$$$(ao<|bc (aq ρ (ah (dW (ds:=(iZ x.2).map d8) ?I ?J) ρ)<|eU ?L) ?M<|au<|bp ?N)
  case I=>$("v")
  case J=>show 4<=a9;$$(a9);decide
  case L=>simp?[a8,a8,E1,f'];show _+4<=_;$$(a9);lia
  case M=>$ρ
  $({_,τ ⟨x,ρ⟩,?_});rw[R3 ex,ft];rfl
 ext Z ⟨T,i,rfl⟩;let j:rs.take (rs.map az).length=rs:=by rw[a8,ri]
 rw[j];let hl:=E1 rs;let l:pM [.L (((cV rs).filter λp=>am<|3<(cV rs).count p).map d8)]=ac (.D<|.int (((cV rs).filter λp=>am<|3<(cV rs).count p).length:Nat)):=by rw[<-a8 (as:=(cV rs).filter λp=>am<|3<(cV rs).count p) d8];rfl
 $$$(au<|ao<|bY (aq (ah (aE (ae (ah (kA (enc:=d8) (xs:=cV rs) (λp=>[.no,.D<|d8 p,.D<|.L<|(cV rs).map d8]) (λp=>am<|3<(cV rs).count p) (λp=>d8 p) (bX ρ) ?O ?Q ?R ?S ?U ?V) ?W) ak) l) ρ) ρ ρ)<|fN ?X)
 case O=>$ρ
 case Q=>$$(a9);lia
 case R=>ext y a Z hd;let rfl||(z,rfl):=hd<;>rfl
 case S=>ext y a;let e:=v_count (f:=cS 2) (fa:=dm (cS 1) gm) (Z:=[.no,.D<|d8 y,.D<|.L<|(cV rs).map d8]) ρ (ae ρ ak) (Kb<|cV rs)<|Ir (ds:=[.int y.1,.int y.2]) ρ;rw[Th]at e;$((bB<|aq e ρ ρ).trans ?_);congr 2;$(decide_eq_decide.2 ∅)
 case U=>ext y a _;rfl
 case V=>ext y a;rfl
 case W=>$ρ
 $(fh ?_);$$(lh);$(decide_eq_decide.2 ?_);constructor
 .ext h;let h:0<((cV rs).filter λp=>am<|3<(cV rs).count p).length:=∅
  let(p,m):=List.exists_mem_of_length_pos h;let(b,c):=gg.1 m;$({p,b,of_decide_eq_true c})
 ext⟨p,b,c⟩;let:0<((cV rs).filter λp=>am<|3<(cV rs).count p).length:=adw (gg.2 {b,decide_eq_true c});$_
theorem Ja{rs:Fl}{k:Nat}{x:ew×Ob}(h:rs[k]?=ac x):dJ (aC rs) (.int (k:Int))=ac (az x):=by show dJ (.L<|rs.map az) (.int (k:Int))=_;rw[oK];$(nh (by rw[ee,h];rfl))
end
theorem D2:∀(l d:List Key),d.Nodup->((l.foldl gS d).length=d.length+l.length↔l.Nodup/\∀x∈l,x∉d)
 |[],d,_=>by simp
 | v::l,d,h=>by
  let le:∀(l d:List Key),(l.foldl gS d).length<=d.length+l.length:=by
   ext l;induction l with
   |nil=>ext d;simp
   |cons a l g=>ext d;simp;let:=g<|gS d a;let e:=GY d a;$$$$$e<;>lia
  simp?[aaS,fq];ext(f:v∈d)
  .let e:gS d v=d:=if_pos (ll.2 {v,f,⋯});constructor
   .ext z;let:=le l d;lia
   ext⟨_,z⟩;$(absurd f<|z v<|eR ..)
  let e:gS d v=d++[v]:=if_neg (λz=>by let(a,i,e):=ll.1 z;cases of_decide_eq_true e;$(f i))
  let h':(d++[v]).Nodup:=by rw[hM];$({h,⋯,?_});ext a i b j;cases ka.1 j;$(λz=>f<|z ▸ i)
  let g:=D2 l (d++[v]) h';simp?[fk,abG]at g;rw[e,show d.length+(l.length+1)=d.length+1+l.length from by lia,g,iN];constructor
  .ext⟨a,b⟩;$({{λz=>b v z ⋯,a},?_});ext x hx;let rfl||hx:=dV.1 hx
   .$f
   $(λz=>b x hx (by simp[z]))
  ext⟨⟨a,b⟩,c⟩;$({b,λx hx z=>?_});let z||z:=el.1 z
  .$(c x (eH _ hx) z)
  cases ka.1 z;$(a hx)
def wK(ys):ji ys=ys.length↔ys.Nodup:=by
 dsimp[ji,dO];let e:(lb ys.length).map (λi=>(px ((ys[i]?).getD ow):Key))=ys.map px:=by
  apply aeF
  .simp
  ext i h1 b;let:i<ys.length:=by$$$$b
  simp[this]
 rw[e];let:=D2 (ys.map px) [] D0;simp?[a8,T',aal]at this;rw[this];constructor
 .ext⟨a,_⟩;$((hF.1 a).imp λh z=>h (by rw[z]))
 ext a;$({hF.2 (a.imp λh z=>h<|Sum.inr.inj z),λx _ z=>by$$$z})
theorem Bu:∀{l:List c},(∀i x,l[i]?=ac x->∀y∈l.drop (i+1),R x y)↔l.Pairwise R
 |[]=>⋯
 | a::l=>by
  rw[P',<-Bu];constructor
  .ext h;$({λy b=>h 0 a ρ y b,λi x e y b=>h (i+1) x e y b})
  ext⟨d,f⟩ i x e y b;cases i with
  |zero=>$$$e;$(d y b)
  |succ i=>$(f i x e y b)
structure aQ (rs:Fl):Prop where
 ne:rs≠[]
 aY:rs.length<=8
 nm:∀x∈rs,cy x.1=bd
 row:∀x∈rs,0<=x.2.l/\x.2.l<x.2.r/\0<=x.2.b/\x.2.b<x.2.t
 nd:(rs.map (·.1)).Nodup
 ap:rs.Pairwise λx y=>Apart x.2 y.2
 ar:nj rs=cI rs*cz rs
def GN (hx:x.ok)(a:y.ok):gY x y=bi↔Apart x y:=by
 delta gY je gV mY imax Apart;unfold Ob.ok at hx a;rw[adN,decide_eq_false_iff_not,decide_eq_false_iff_not];constructor
 .ext (h|h)
  .$$$$$h<;>$$$$$h<;>$_
  $$$$$h<;>$$$$$h<;>$_
 ext (h|h|h|h)
 .left;split<;>split<;>$_
 .left;split<;>split<;>$_
 .right;split<;>split<;>$_
 right;split<;>split<;>$_
def Eh(x):lY x=bd↔cy x.1=bd/\0<=x.2.l/\x.2.l<x.2.r/\0<=x.2.b/\x.2.b<x.2.t:=by
 $$(lY);simp?[ec,decide_eq_true_eq];constructor
 .ext⟨⟨a,b,c⟩,d,e⟩;$(⟨a,b,c,d,e⟩)
 ext⟨a,b,c,d,e⟩;$({⟨a,b,c⟩,d,e})
def JZ(rs):me rs=bd↔aQ rs:=by
 let k:(∀x∈rs,x.2.ok)->(((lb rs.length).any λi=>(rs.drop<|i+1).any λy=>gY (rs.getD i ("",{0,0,0,0})).2 y.2)=bi ↔ rs.Pairwise λx y=>Apart x.2 y.2):=by
  ext ok;rw[<-Bu,ack];constructor
  .ext h i x e y g;let hi:=(bg.1 e).1;let:=h i<|aah.2 hi;rw[aaI,ack]at this;let:=this y g;rw[aaI,kq,e]at this;$((GN (ok x<|eK e)<|ok y<|aaO g).1 this)
  ext h i hi;let hi:=aah.1 hi;rw[aaI,ack];ext y g;let e:rs[i]?=ac rs[i]:=b8 hi;rw[aaI,kq,e];$((GN (ok _<|G' hi)<|ok y<|aaO g).2 (h i _ e y g))
 $$(me);simp?[ec,decide_eq_true_eq,l4,ib];constructor
 .ext⟨⟨⟨⟨⟨a,b⟩,c⟩,d⟩,e⟩,f⟩;let j:∀x∈rs,_:=λx hx=>(Eh x).1 (c x hx);$({λz=>by rw[z]at a;simp at a,b,λx hx=>(j x hx).1,λx hx=>(j x hx).2,?_,(k λx hx=>{(j x hx).2.2.1,(j x hx).2.2.2.2}).1 e,f});rw[<-wK,d,a8]
 ext F;$({{{{{ir.2 F.ne,F.aY},λx hx=>(Eh x).2 {F.nm x hx,F.row x hx}},?_},(k λx hx=>{(F.row x hx).2.1,(F.row x hx).2.2.2}).2 F.ap},F.ar});rw[(wK _).2 F.nd,a8]
theorem AL{x y:Ob}(hx:x.ok)(c:y.ok){k:Nat}(a:k<4):(nN x y=ac k)↔dw k x y=bd:=by
 unfold Ob.ok at hx c;let a1:0<je x y↔x.l<y.r/\y.l<x.r:=by dsimp[je,mY,imax];split<;>split<;>$_
 let a2:0<gV x y↔x.b<y.t/\y.b<x.t:=by dsimp[gV,mY,imax];split<;>split<;>$_
 let a3:je x y=0↔y.l=x.r\/y.r=x.l:=by dsimp[je,mY,imax];split<;>split<;>$_
 let a4:gV x y=0↔y.b=x.t\/y.t=x.b:=by dsimp[gV,mY,imax];split<;>split<;>$_
 let a:k=0\/k=1\/k=2\/k=3:=by lia
 unfold nN;let rfl||rfl||rfl||rfl:=a
 .rw[show dw 0 x y=(am (y.b=x.t)&&(am (x.l<y.r)&&am (y.l<x.r)))from ρ];simp?[ec,decide_eq_true_eq];constructor
  .ext h;$$$$$h
   .split at h
    .lia
    cases h
   split at h
   .split at h<;>$$$h
   cases h
  ext h;rw[if_pos (by lia),if_pos h.1]
 .rw[show dw 1 x y=(am (y.l=x.r)&&(am (x.b<y.t)&&am (y.b<x.t)))from ρ];simp?[ec,decide_eq_true_eq];constructor
  .ext h;$$$$$h
   .split at h<;>$$$h
   split at h
   .split at h
    .lia
    cases h
   cases h
  ext h;rw[if_neg ∅,if_pos (by lia),if_pos h.1]
 .rw[show dw 2 x y=(am (y.t=x.b)&&(am (x.l<y.r)&&am (y.l<x.r)))from ρ];simp?[ec,decide_eq_true_eq];constructor
  .ext h;$$$$$h
   .split at h
    .cases h
    lia
   split at h
   .split at h<;>$$$h
   cases h
  ext h;rw[if_pos (by lia),if_neg ∅]
 rw[show dw 3 x y=(am (y.r=x.l)&&(am (x.b<y.t)&&am (y.b<x.t)))from ρ];simp?[ec,decide_eq_true_eq];constructor
 .ext h;$$$$$h
  .split at h<;>$$$h
  split at h
  .split at h
   .cases h
   lia
  cases h
 ext h;rw[if_neg ∅,if_pos (by lia),if_neg ∅]
def aQ.dQ (F:aQ rs)(hx:x∈rs):x.2.r<=cI rs/\x.2.t<=cz rs:={o5<|a5.2 ⟨x,hx,ρ⟩,o5<|a5.2 ⟨x,hx,ρ⟩}
def aQ.ok (F:aQ rs)(hx:x∈rs):x.2.ok:={(F.row x hx).2.1,(F.row x hx).2.2.2}
def aQ.hit (F:aQ rs)(d:0<=p)(h2:p<cI rs)(f:0<=q)(h4:q<cz rs):∃y∈rs,y.2.l<=p/\p<y.2.r/\y.2.b<=q/\q<y.2.t:=by
 let(o,c,e):=filled (W:=(cI rs).toNat) (H:=(cz rs).toNat) (λo c=>by
  let(x,hx,rfl):=a5.1 c;let a:=F.row x hx;let b:=F.dQ hx;$({a.1,a.2.1,∅,a.2.2.1,a.2.2.2,∅})) (hF.2 F.ap) (by
  rw[fm];let:=F.ar;unfold nj at this;rw[show(Ob.area ∘ λx:ew×Ob=>x.2)=λx=>x.2.area from ρ,this,ti (by lia),ti (by lia)]) d (by lia) f (by lia)
 let(x,hx,rfl):=a5.1 c;$(⟨x,hx,e⟩)
theorem kE{b:Type}{R:b->b->Prop}{l:List b}(h:l.Pairwise R){x y:b}(hx:x∈l)(a:y∈l):x=y\/R x y\/R y x:=by
 induction h with
 |nil=>$$$hx
 |cons d _ e =>
  let rfl||c:=dV.1 hx
  .let rfl||a:=dV.1 a
   .$(ι ρ)
   $(τ<|ι<|d y a)
  let rfl||a:=dV.1 a
  .$(τ<|τ<|d x c)
  $(e c a)
def iU(rs:Fl)(x:Ob)(k:Nat):Prop:=if k=0 then x.t=cz rs else if k=1 then x.r=cI rs else if k=2 then x.b=0 else x.l=0
instance (rs:Fl) (x:Ob) (k:Nat):Decidable (iU rs x k):=by$$(iU);infer_instance
theorem aQ.inner{rs:Fl}(F:aQ rs){x:ew×Ob}(hx:x∈rs){k:Nat}(f:k<4)(h:¬iU rs x.2 k):cP rs x.2 k≠[]:=by
 let a:=F.row x hx;let b:=F.dQ hx;let key:∃y∈rs,dw k x.2 y.2=bd:=by
  let f:k=0\/k=1\/k=2\/k=3:=by lia
  let rfl||rfl||rfl||rfl:=f
  .let h:¬x.2.t=cz rs:=h;let(y,d,e):=F.hit (p:=x.2.l) (q:=x.2.t) ∅ ∅ (by lia) (by lia);$({y,d,?_});let c:y.2.b=x.2.t:=by
    let rfl||z||z:=kE F.ap hx d
    .$_
    .delta Apart at z;$_
    delta Apart at z;$_
   show(am (y.2.b=x.2.t)&&(am (x.2.l<y.2.r)&&am (y.2.l<x.2.r)))=bd;simp;$_
  .let h:¬x.2.r=cI rs:=h;let(y,d,e):=F.hit (p:=x.2.r) (q:=x.2.b) (by lia) (by lia) ∅ ∅;$({y,d,?_});let c:y.2.l=x.2.r:=by
    let rfl||z||z:=kE F.ap hx d
    .$_
    .delta Apart at z;$_
    delta Apart at z;$_
   show(am (y.2.l=x.2.r)&&(am (x.2.b<y.2.t)&&am (y.2.b<x.2.t)))=bd;simp;$_
  .let h:¬x.2.b=0:=h;let(y,d,e):=F.hit (p:=x.2.l) (q:=x.2.b-1) ∅ ∅ (by lia) ∅;$({y,d,?_});let c:y.2.t=x.2.b:=by
    let rfl||z||z:=kE F.ap hx d
    .$_
    .delta Apart at z;$_
    delta Apart at z;$_
   show(am (y.2.t=x.2.b)&&(am (x.2.l<y.2.r)&&am (y.2.l<x.2.r)))=bd;simp;$_
  let h:¬x.2.l=0:=h;let(y,d,e):=F.hit (p:=x.2.l-1) (q:=x.2.b) (by lia) ∅ ∅ ∅;$({y,d,?_});let c:y.2.r=x.2.l:=by
   let rfl||z||z:=kE F.ap hx d
   .$_
   .delta Apart at z;$_
   delta Apart at z;$_
  show(am (y.2.r=x.2.l)&&(am (x.2.b<y.2.t)&&am (y.2.b<x.2.t)))=bd;simp;$_
 let(y,d,e):=key;ext z;delta cP at z;rw[sq]at z;let:y∈rs.filter λy=>dw k x.2 y.2:=gg.2 ⟨d,e⟩;rw[z]at this;$$$this
def aQ.outer (F:aQ rs)(hx:x∈rs)(c:k<4)(h:iU rs x.2 k):cP rs x.2 k=[]:=by
 delta cP;rw[sq,abt];ext y d z;let a:=F.row y d;let b:=F.dQ d;let c:k=0\/k=1\/k=2\/k=3:=by lia
 let rfl||rfl||rfl||rfl:=c
 .let h:x.2.t=cz rs:=h;let z:(am (y.2.b=x.2.t)&&_)=bd:=z;rw[ec,decide_eq_true_eq]at z;$_
 .let h:x.2.r=cI rs:=h;let z:(am (y.2.l=x.2.r)&&_)=bd:=z;rw[ec,decide_eq_true_eq]at z;$_
 .let h:x.2.b=0:=h;let z:(am (y.2.t=x.2.b)&&_)=bd:=z;rw[ec,decide_eq_true_eq]at z;$_
 let h:x.2.l=0:=h;let z:(am (y.2.r=x.2.l)&&_)=bd:=z;rw[ec,decide_eq_true_eq]at z;$_
def aQ.nodup (F:aQ rs)(x:Ob)(i:k<4):((cP rs x k).map (·.1)).Nodup:=by
 delta cP;rw[fm];$(hF.2 ?_);let h:rs.Pairwise λy z=>dw k x y.2=bd->dw k x z.2=bd->d9 k y.2≠d9 k z.2:=by
  $(aac (λ{y z} f g ap d c e=>?_) F.ap);let a:=F.row y f;let b:=F.row z g;unfold Apart at ap;let i:k=0\/k=1\/k=2\/k=3:=by lia
  let rfl||rfl||rfl||rfl:=i
  .let d:(am (y.2.b=x.t)&&_)=bd:=d;let c:(am (z.2.b=x.t)&&_)=bd:=c;let e:y.2.l=z.2.l:=e;rw[ec,decide_eq_true_eq]at d c;$_
  .let d:(am (y.2.l=x.r)&&_)=bd:=d;let c:(am (z.2.l=x.r)&&_)=bd:=c;let e:- y.2.b=- z.2.b:=e;rw[ec,decide_eq_true_eq]at d c;$_
  .let d:(am (y.2.t=x.b)&&_)=bd:=d;let c:(am (z.2.t=x.b)&&_)=bd:=c;let e:- y.2.l=- z.2.l:=e;rw[ec,decide_eq_true_eq]at d c;$_
  let d:(am (y.2.r=x.l)&&_)=bd:=d;let c:(am (z.2.r=x.l)&&_)=bd:=c;let e:y.2.b=z.2.b:=e;rw[ec,decide_eq_true_eq]at d c;$_
 let c:=h.filter<|λy=>dw k x y.2;$(aac (λ{y z} f g q=>?_) c);$(q (gg.1 f).2 (gg.1 g).2)
def aQ.pos (F:aQ rs):0<cI rs/\0<cz rs:=by let(x,hx):=ac8 rs F.ne;let a:=F.row x hx;let b:=F.dQ hx;lia
def jG(rs:Fl)(k:Nat):Ob:=if k=0 then{0,cz rs,cI rs,cz rs+1}else if k=1 then{cI rs,0,cI rs+1,cz rs}else if k=2 then{0,-1,cI rs,0}else{-1,0,0,cz rs}
def Nw (F:aQ rs)(hx:x∈rs)(c:k<4):jB x.2 (km rs) k=if iU rs x.2 k then[(d9 k<|jG rs k,bf k)]else[]:=by
 let a:=F.row x hx;let b:=F.dQ hx;let p:=F.pos;let key:∀j,j<4->(am (nN x.2 (jG rs j)=ac k)=(am (j=k)&&am (iU rs x.2 k))):=by
  ext j d;rw[qh,ec,decide_eq_true_eq,decide_eq_true_eq,decide_eq_true_eq];let ok:(jG rs j).ok:=by
   let d:j=0\/j=1\/j=2\/j=3:=by lia
   let rfl||rfl||rfl||rfl:=d
   .$({show(0:Int)<cI rs by$_,show cz rs<cz rs+1 by lia})
   .$({show cI rs<cI rs+1 by lia,show(0:Int)<cz rs by$_})
   .$({show(0:Int)<cI rs by$_,show(-1:Int)<0 by$_})
   $({show(-1:Int)<0 by$_,show(0:Int)<cz rs by$_})
  rw[AL (F.ok hx) ok c];let d:j=0\/j=1\/j=2\/j=3:=by lia
  let c:k=0\/k=1\/k=2\/k=3:=by lia
  let rfl||rfl||rfl||rfl:=d<;>let rfl||rfl||rfl||rfl:=c<;>simp[dw,lN,jG,iU]<;>$_
 let g:(km rs).filter (λy=>am<|nN x.2 y.2=ac k)=if iU rs x.2 k then[(bf k,jG rs k)]else[]:=by
  let e:km rs=[(bf 0,jG rs 0),(bf 1,jG rs 1),(bf 2,jG rs 2),(bf 3,jG rs 3)]:=ρ;rw[e];simp?[abj,List.filter_nil,key 0 ⋯,key 1 ⋯,key 2 ⋯,key 3 ⋯];let c:k=0\/k=1\/k=2\/k=3:=by lia
  ext(f:iU rs x.2 k)
  .simp?[decide_eq_true f,if_pos f];let rfl||rfl||rfl||rfl:=c<;>rfl
  simp?[decide_eq_false f,if_neg f,Bool.and_false];rfl
 $$(jB);rw[g];split<;>rfl
def MW (F:aQ rs)(hx:x∈rs)(a:k<4):jB x.2 (rs++km rs) k=if iU rs x.2 k then[(d9 k<|jG rs k,bf k)]else cP rs x.2 k:=by
 let b:jB x.2 (rs++km rs) k=jB x.2 rs k++jB x.2 (km rs) k:=by$$(jB);rw[List.filter_append,ft]
 let c:jB x.2 rs k=cP rs x.2 k:=by
  unfold jB cP;congr 1;$(acj λy d=>?_)
  rw[qh,decide_eq_true_eq];$(AL (F.ok hx) (F.ok d) a)
 simp?[b,c,Nw F hx a];ext(h:iU rs x.2 k)
 .rw[if_pos h,if_pos h,F.outer hx a h];rfl
 rw[if_neg h,if_neg h,z6]
def SN (F:aQ rs)(hx:x∈rs)(a:k<4):(gN<|jB x.2 (rs++km rs) k).map (·.2)=eZ rs x.2 k:=by
 rw[MW F hx a];delta eZ;ext(h:iU rs x.2 k)
 .rw[if_pos h,if_pos<|F.outer hx a h];delta gN;simp
 rw[if_neg h,if_neg<|F.inner hx a h]
def aQ.some (F:aQ rs)(x:Ob):Ao rs x:=λ_ a=>F.nodup x a
section
variable{P:hE}{w:iR}{K:e6}{mg:ew->Option bt}{base:k7}
def cX(o:Ob):Dat:=.U [.int o.l,.int o.b,.int o.r,.int o.t]
def Bx(o:Ob):Prop:=0<=o.l/\o.l<o.r/\o.r<=10 ^ 27+2/\0<=o.b/\o.b<o.t/\o.t<=10 ^ 27+2
theorem Bx.of{o x:Ob}{os:List Ob}(h:Bx o)(c:Cuts o os)(hx:x∈os):Bx x:=by let:=c.aU x hx;unfold Bx at *;$_
def o9(o:Ob)(k:Nat)(a:Int):List Ob:=if k=0 then[⟨o.l,o.b,o.r,a⟩,⟨o.l,a,o.r,o.t⟩]else[⟨o.l,o.b,a,o.t⟩,⟨a,o.b,o.r,o.t⟩]
def Ce(fn:aJ):Prop:=∀(o:Ob) (k:Nat) (a:Int),k=0\/k=1->fn [cX o,.int (k:Int),.int a]=ac (.O<|.L<|(o9 o k a).map cX)
theorem N2(T:Txt mg){f:cA}{c:gi}(F:ba K "_law_halved" "_law_halved" yK f c):∃fn,aS P w K mg base aT 1 f c ["_law_sides","_law_way","_law_at"] (ay K fn)/\Ce fn:=by
 $$$(bQ F Cj (n:=3) ρ ?C ?B)
 case C=>let nd:=Cj.nd;$("h")
 clear T F;ext o k a (rfl|rfl)
 .$$$(bT ρ ?w)
  case w=>show WS _ [.D (.U [.int o.l,.int o.b,.int o.r,.int o.t]),.D<|.int 0,.D<|.int a,.no,.no,.no,.no] _;$("w");$$$(vF (bB<|aq ρ ρ<|eq_int _ _) ⋯ ?_);$("w");$({_,ρ})
 $$$(bT ρ ?w)
 case w=>show WS _ [.D (.U [.int o.l,.int o.b,.int o.r,.int o.t]),.D<|.int 1,.D<|.int a,.no,.no,.no,.no] _;$("w");$$$(ni (bB<|aq ρ ρ<|eq_int _ _) ⋯ ?_);$("w");$({_,ρ})
def FX(fn:dB):Prop:=∀(p:Int×Int) (o:Ob),Bx o->2<o.r-o.l->2<o.t-o.b->∃r a,fn (pD p) [cX o]=ac (r,a)/\∃(os:List Ob) (c:Int×Int),r=.O (.L<|os.map cX)/\a=pD c/\os.length=5/\Cuts o os
theorem Ny(T:Txt mg)(I:aN P w K mg base "_law_take" 1 (dr K 0 gn)){f:cA}{x:gi}(F:ba K "_law_whirled" "_law_whirled" ye f x):∃fn,aS P w K mg base aT 2 f x ["_law_sides","_law_purse_here"] (dr K 1 fn)/\FX fn:=by
 $$$(pZ (j:=1) F Du (n:=1) ρ ?J ?B)
 case J=>let nd:=Du.nd;let lk:j7 "_law_purse_here":=⟨trivial⟩;$("h")
 clear T F I;ext p o L hw hh;let(l,b,r,t):=o;let(M,N,O,Q,R,S):=L;dsimp at M N O Q R S hw hh;let lg:∀m:Int,0<m->m<=10 ^ 27+2->0<m/\m.natAbs.log2<9000:=λm h h'=>⟨h,uV (by
  let:m.natAbs<2 ^ 91:=∅
  $(aaA this<|ad1 ⋯ ⋯))⟩
 let y:=fQ p (r-l-2)<|lg _ ∅ ∅;let(U,V):=fU p (m:=r-l-2) ∅;generalize br p (r-l-2)=a at y U V;generalize cQ p (r-l-2)=i at y;let z:=fQ i (r-(l+1+a)-1)<|lg _ ∅ ∅;let(W,X):=fU i (m:=r-(l+1+a)-1) ∅;generalize br i (r-(l+1+a)-1)=d at z W X;generalize cQ i (r-(l+1+a)-1)=k at z;let C:=fQ k (t-b-2)<|lg _ ∅ ∅;let(Y,Z):=fU k (m:=t-b-2) ∅;generalize br k (t-b-2)=c at C Y Z;generalize cQ k (t-b-2)=q at C;let D:=fQ q (t-(b+1+c)-1)<|lg _ ∅ ∅;let(u7,u8):=fU q (m:=t-(b+1+c)-1) ∅;generalize br q (t-(b+1+c)-1)=e at D u7 u8;generalize cQ q (t-(b+1+c)-1)=g at D;let u:=fQ g 2<|lg _ ∅ ∅;let(u9,G):=fU g (m:=2) ∅;generalize br g 2=z0 at u u9 G;generalize cQ g 2=v at u;$$$(pf ρ ?w);show WS _ [.D (.U [.int l,.int b,.int r,.int t]),.io<|pD p,.no,.no,.no,.no,.no,.no,.no,.no,.no] _;$("w");show WS _ [.D (.U [.int l,.int b,.int r,.int t]),.io<|pD g,.D<|.int l,.D<|.int b,.D<|.int r,.D<|.int t,.D<|.int<|l+1+a,.D<|.int<|l+1+a+1+d,.D<|.int<|b+1+c,.D<|.int<|b+1+c+1+e,.D<|.U [.int (l+1+a),.int<|b+1+c,.int<|l+1+a+1+d,.int<|b+1+c+1+e]] _;$$$(eA (Z1:=[.D (.U [.int l,.int b,.int r,.int t]),.io<|pD v,.D<|.int l,.D<|.int b,.D<|.int r,.D<|.int t,.D<|.int<|l+1+a,.D<|.int<|l+1+a+1+d,.D<|.int<|b+1+c,.D<|.int<|b+1+c+1+e,.D<|.U [.int (l+1+a),.int<|b+1+c,.int<|l+1+a+1+d,.int<|b+1+c+1+e]]) (bB<|aq (ah (dz ρ sv ρ u ρ) ρ) ρ<|eq_int _ _) (λh=>?_)<|λh=>?_)
 .$("w");$({_,_,_,ρ,ρ,[{l,b,(l+1+a+1+d),(b+1+c)},{(l+1+a+1+d),b,r,(b+1+c+1+e)},{(l+1+a),(b+1+c+1+e),r,t},{l,(b+1+c),(l+1+a),t},{(l+1+a),(b+1+c),(l+1+a+1+d),(b+1+c+1+e)}],v,ρ,ρ,ρ,?_});$(Cuts.MM ∅ ∅ ∅ ∅ ∅ ∅)
 $("w");$({_,_,_,ρ,ρ,[{(l+1+a),b,r,(b+1+c)},{(l+1+a+1+d),(b+1+c),r,t},{l,(b+1+c+1+e),(l+1+a+1+d),t},{l,b,(l+1+a),(b+1+c+1+e)},{(l+1+a),(b+1+c),(l+1+a+1+d),(b+1+c+1+e)}],v,ρ,ρ,ρ,?_});$(Cuts.Kc ∅ ∅ ∅ ∅ ∅ ∅)
def Hf(fn:dB):Prop:=∀(p:Int×Int) (c:Int),1<=c->c<=10->∃r d,fn (pD p) [.int c]=ac (r,d)/\∃(os:List Ob) (e:Int×Int) (a:Ob),r=.O (.L<|os.map cX)/\d=pD e/\os.length<=8/\Bx a/\a.l=0/\a.b=0/\Cuts a os
def pY(o:Ob):List Slot:=[.D (.int o.l),.D<|.int o.b,.D<|.int o.r,.D<|.int o.t]
def QF(T:List Slot):Prop:=T=[.no,.no,.no,.no]\/∃o,T=pY o
theorem Bx.lg{m:Int}(h:0<m)(h':m<=10 ^ 27+2):0<m/\m.natAbs.log2<9000:=⟨h,uV (by
 let:m.natAbs<2 ^ 91:=∅
 $(aaA this<|ad1 ⋯ ⋯))⟩
theorem TX{os:List Ob}{j:Nat}{o:Ob}(h:os[j]?=ac o):dJ (.L<|os.map cX) (.int (j:Int))=ac (cX o):=by rw[oK];$(nh (by rw[ee,h];rfl))
theorem ES(os:List Ob)(j:Nat):fD (.L<|os.map cX) al (ac (j:Int))=ac (.O<|.L<|(os.take j).map cX):=by show ac (Res.O<|.L<|cutD (os.map cX) al<|ac (j:Int))=_;rw[mH,z8]
theorem Cf(os:List Ob)(j:Nat):fD (.L<|os.map cX) (ac<|(j:Int)+1) al=ac (.O<|.L<|(os.drop<|j+1).map cX):=by show ac (Res.O<|.L<|cutD (os.map cX) (ac<|(j:Int)+1) al)=_;rw[show((j:Int)+1)=((j+1:Nat):Int)from by push_cast;rfl,nQ,zc]
theorem Og{o:Ob}(h:Bx o){k:Nat}(e:k=0\/k=1){a:Int}(c:(if k=0 then o.b else o.l)<a)(d:a<(if k=0 then o.t else o.r)):Cuts o (o9 o k a):=by
 unfold Bx at h;$$(o9);let rfl||rfl:=e
 .rw[if_pos ρ]at c d;rw[if_pos ρ];$(Cuts.up ⟨h.2.1,h.2.2.2.2.1⟩ c d)
 rw[if_neg ⋯]at c d;rw[if_neg ⋯];$(Cuts.on ⟨h.2.1,h.2.2.2.2.1⟩ c d)
theorem PX(T:Txt mg)(T2:ik mg)(p1:aN P w K mg base "_law_take" 1 (dr K 0 gn)){V:dB}(p2:aN P w K mg base "_law_whirled" 2 (dr K 1 V))(s2:FX V){W:aJ}(p3:aN P w K mg base "_law_halved" 1 (ay K W))(s3:Ce W){f:cA}{fd:gi}(F:ba K "_law_cut_up" "_law_cut_up" Ay f fd):∃fn,aS P w K mg base aT 3 f fd ["_law_purse_here","_law_most"] (dr K 0 fn)/\Hf fn:=by
 $$$(pZ (j:=0) F BP (n:=1) ρ ?C ?post)
 case C=>let nd:=BP.nd;$$$T2;let lk:j7 "_law_purse_here":=⟨trivial⟩;$("h")
 clear T T2 F p1 p2 p3;ext p c mo1 mo10;$$$(pf ρ ?w);show WS _ [.io (pD p),.D<|.int c,.no,.no,.no,.no,.no,.no,.no,.no,.no,.no] _;let t1:=fQ p 5<|Bx.lg ⋯ ⋯;let(u1,u2):=fU p (m:=5) ⋯;obtain⟨g,eg,Q,g1⟩:∃g:Int,dJ (.L [.int 4,.int 9,.int 30,.int<|10 ^ 6,.int<|10 ^ 27]) (.int<|br p 5)=ac (.int g)/\0<g/\g<=10 ^ 27:=by
  let:br p 5=0\/br p 5=1\/br p 5=2\/br p 5=3\/br p 5=4:=by lia
  let e||e||e||e||e:=this<;>rw[e]
  .$({4,ρ,⋯,⋯})
  .$({9,ρ,⋯,⋯})
  .$({30,ρ,⋯,⋯})
  .$({10 ^ 6,ρ,⋯,⋯})
  $({10 ^ 27,ρ,⋯,⋯})
 let l5:dm (fC<|Dat.int 4) (dm (fC<|Dat.int 9)<|dm (fC<|Dat.int 30)<|dm (gp<|cK (eI tT λi j=>Dat.int<|i ^ j.toNat) (fC<|Dat.int 10)<|fC<|Dat.int 6)<|dm (gp<|cK (eI tT λi j=>Dat.int<|i ^ j.toNat) (fC<|Dat.int 10)<|fC<|Dat.int 27) gm) [.io (pD p),.D<|.int c,.no,.no,.no,.no,.no,.no,.no,.no,.no,.no]=ac ([.int 4,.int 9,.int 30,.int<|10 ^ 6,.int<|10 ^ 27],[.io (pD p),.D<|.int c,.no,.no,.no,.no,.no,.no,.no,.no,.no,.no]) :=
  ae rfl (ae ρ<|ae ρ<|ae (ah (aq ρ ρ<|kD (by decide +kernel)) ρ)<|ae (ah (aq ρ ρ<|kD (by decide +kernel)) ρ) ak)
 $$$(ao<|bc (Z2:=[.io (pD<|cQ p 5),.D<|.int c,.D<|.int g,.no,.no,.no,.no,.no,.no,.no,.no,.no]) (v_res<|mB (ah (dW l5 (by show 5<=a9;$$(a9);decide)) ρ) (ah (dz ρ sv ρ t1 ρ) ρ) eg) ρ<|au ?_);generalize cQ p 5=u;let t2:=fQ u g<|Bx.lg Q (by lia);let(u3,u4):=fU u Q;let t3:=fQ (cQ u g) g<|Bx.lg Q (by lia);let(u5,u6):=fU (cQ u g) Q;$$$(ao<|bc (Z2:=[.io (pD<|cQ (cQ u g) g),.D<|.int c,.D<|.int g,.O<|.L<|[(⟨0,0,2+br u g,2+br (cQ u g) g⟩:Ob)].map cX,.no,.no,.no,.no,.no,.no,.no,.no]) (dW (ae (hU (ae ρ<|ae ρ<|ae (ah (aq ρ (ah (dz ρ (ae ρ ak) ρ t2 ρ) ρ) ρ) ρ)<|ae (ah (aq ρ (ah (dz ρ (ae ρ ak) ρ t3 ρ) ρ) ρ) ρ) ak) (by show 4<=a9;$$(a9);decide)) ak) (by show 1<=a9;$$(a9);decide)) ρ<|au ?_);let M:Bx {0,0,2+br u g,2+br (cQ u g) g}:=by$$(Bx);dsimp;lia
 let z0:({0,0,2+br u g,2+br (cQ u g) g}:Ob).l=0/\({0,0,2+br u g,2+br (cQ u g) g}:Ob).b=0:=⟨ρ,ρ⟩;generalize ({0,0,2+br u g,2+br (cQ u g) g}:Ob)=o0 at M z0;generalize cQ (cQ u g) g=q1;let I:=fQ q1 c<|Bx.lg ∅ (by lia);let(u7,u8):=fU q1 (m:=c) ∅;$$$(ao<|e8 (λk Z=>∃(q:Int×Int) (os:List Ob) (I N:Slot) (T:List Slot) (z v:Slot),Fr I/\Fr N/\QF T/\Fr z/\Fr v/\Z=.io (pD q)::.D (.int c)::.D (.int g)::.O (.L<|os.map cX)::I::N::(T++[z,v])/\0<os.length/\os.length<=8/\Cuts o0 os) (mr (n:=br q1 c) (ae (ah (dz ρ (ae ρ ak) ρ I ρ) ρ) ak) (by lia)) ?R ?st ?fin)
 case R=>$({_,[o0],.no,.no,_,.no,.no,ι ρ,ι ρ,ι ρ,ι ρ,ι ρ,ρ,(show 0<1 by decide),(show 1<=8 by decide),Cuts.one ⟨M.2.1,M.2.2.2.2.1⟩})
 case st =>
  ext k y hy Z ⟨q,os,I,N,T,z,v,f4,f5,hT,X,G,rfl,R,h8,C⟩;clear t1 u1 u2 eg l5 t2 u3 u4 t3 u5 u6 u7 u8;let(hk,rfl):=uc hy;let ln:du (.L<|os.map cX)=ac os.length:=by simp[du]
  $({.io (pD q)::.D (.int c)::.D (.int g)::.O (.L<|os.map cX)::.D (.int (k:Int))::N::(T++[z,v]),by let rfl||(d,rfl):=f4<;>rfl,?_});let s1:=fQ q (os.length:Int)<|Bx.lg ∅ (by lia);let(v1,v2):=fU q (m:=(os.length:Int)) ∅;obtain⟨j,hj⟩:∃j:Nat,br q (os.length:Int)=(j:Int):={(br q (os.length:Int)).toNat,by lia};rw[hj]at s1 v2;let Wp:j<os.length:=∅
  obtain⟨o,S⟩:∃o,os[j]?=ac o:={os[j],b8 Wp};let bo:=M.of C<|eK S;let ix:=TX S;generalize cQ q (os.length:Int)=J at s1;$$$(ao<|bc (Z2:=.io (pD J)::.D (.int c)::.D (.int g)::.O (.L<|os.map cX)::.D (.int (k:Int))::.D (.int (j:Int))::(T++[z,v])) (dz ρ (ae (eG ρ ln) ak) ρ s1 ρ) ?x1<|au ?_)
  case x1=>let rfl||(d,rfl):=f5<;>rfl
  $$$(ao<|Af (Z2:=.io (pD J)::.D (.int c)::.D (.int g)::.O (.L<|os.map cX)::.D (.int (k:Int))::.D (.int (j:Int))::(pY o++[z,v])) (dD ρ ρ ρ ix) ?x2<|au ?_)
  case x2=>let rfl||(y,rfl):=hT<;>rfl
  let s4:=fQ J 3<|Bx.lg ⋯ ⋯;let(v3,v4):=fU J (m:=3) ⋯;generalize br J 3=D at s4 v3 v4;generalize cQ J 3=L at s4;$$$(ao<|bc (Z2:=.io (pD L)::.D (.int c)::.D (.int g)::.O (.L<|os.map cX)::.D (.int (k:Int))::.D (.int (j:Int))::(pY o++[.D (.int D),v])) (dz ρ sv ρ s4 ρ) ?x3<|au ?_)
  case x3=>let rfl||(d,rfl):=X<;>rfl
  $$$(ao<|eA (js (bB<|aq ρ ρ<|eq_int _ _)<|js (bB<|aq (ah (aq ρ ρ ρ) ρ) ρ ρ)<|js (bB<|aq (ah (aq ρ ρ ρ) ρ) ρ ρ)<|bB<|aq (eG ρ ln) ρ ρ) (λh=>?_)<|λh=>?_)
  .simp?[ec,decide_eq_true_eq]at h;let(r,c1,e,O,p',rfl,rfl,l5,b5):=s2 L o bo h.2.1 h.2.2.1;let hl5:=h.2.2.2;$$$(ao (bc (Z2:=.io (pD p')::.D (.int c)::.D (.int g)::.O (.L<|(os.take j++O++os.drop (j+1)).map cX)::.D (.int (k:Int))::.D (.int (j:Int))::(pY o++[.D (.int D),v])) (aq (ah (aq (ah (jt ρ ρ<|ES os j) ρ) (ah (dz ρ (ae (dD ρ ρ ρ ix) ak) ρ e ρ) ρ)<|eU ?y1) ρ) (ah (gQ ρ (ah (aq ρ ρ ρ) ρ)<|Cf os j) ρ)<|eU ?y2) ?y3<|au<|bp<|au<|bp<|se ?y4))
   case y1=>simp?[a8,a8,f'];$$(a9);$_
   case y2=>simp?[fk,a8,a8,a8,f',iW];$$(a9);$_
   case y3=>rw[ft,ft];$ρ
   case y4 =>
    $({_,_,_,_,_,_,_,τ {_,ρ},τ {_,ρ},τ ⟨o,ρ⟩,τ {_,ρ},G,ρ,?_,?_,C.Ez S b5})
    .rw[fk,fk];lia
    simp?[fk,fk,f',iW];$_
  clear h;obtain⟨x,Wq,B⟩:∃x:Nat,D%2=(x:Int)/\(x=0\/x=1):={(D%2).toNat,∅,∅};let U:eI (λ_ j=>am<|0<j) (λi j=>Dat.int<|i%j) (.int D) (.int 2)=ac (.D<|.int (x:Int)):=by rw[<-Wq];$(kD ⋯)
  obtain⟨sp,Y,be⟩:∃sp,dJ (.L [.int (o.t-o.b),.int<|o.r-o.l]) (.int (x:Int))=ac (.int sp)/\sp=(if x=0 then o.t else o.r)-(if x=0 then o.b else o.l):=by
   let rfl||rfl:=B
   .$({_,ρ,ρ})
   $({_,ρ,ρ})
  obtain⟨lo,Wr,hlo⟩:∃lo,dJ (.L [.int o.b,.int o.l]) (.int (x:Int))=ac (.int lo)/\lo=(if x=0 then o.b else o.l):=by
   let rfl||rfl:=B
   .$({_,ρ,ρ})
   $({_,ρ,ρ})
  let two:∀a b:Dat,[a,b].length<=sizeLine:=λ_ _=>by show 2<=a9;$$(a9);decide
  $$$(ao<|eA (js (bB<|aq (eG ρ ln) ρ ρ)<|bB<|aq (mB (ah (dW (ae (ah (aq ρ ρ ρ) ρ)<|ae (ah (aq ρ ρ ρ) ρ) ak)<|two _ _) ρ) (ah (aq ρ ρ U) ρ) Y) ρ ρ) (λh=>?_)<|λh=>?_)
  .simp?[ec,decide_eq_true_eq]at h;let(hl8,hs1):=h;let hsb:sp<=10 ^ 27+2:=by
    unfold Bx at bo;let rfl||rfl:=B
    .rw[if_pos ρ,if_pos ρ]at be;$_
    rw[if_neg ⋯,if_neg ⋯]at be;$_
   let s5:=fQ L (sp-1)<|Bx.lg ∅ ∅;let(v5,v6):=fU L (m:=sp-1) ∅;generalize br L (sp-1)=pv at s5 v5 v6;generalize cQ L (sp-1)=q4 at s5;$$$(ao<|bc (Z2:=.io (pD q4)::.D (.int c)::.D (.int g)::.O (.L<|os.map cX)::.D (.int (k:Int))::.D (.int (j:Int))::(pY o++[.D (.int D),.D<|.int<|lo+1+pv])) (aq (ah (aq (mB (ah (dW (ae ρ<|ae ρ ak)<|two _ _) ρ) (ah (aq ρ ρ U) ρ) Wr) ρ ρ) ρ) (ah (dz ρ (ae (ah (aq (mB (ah (dW (ae (ah (aq ρ ρ ρ) ρ)<|ae (ah (aq ρ ρ ρ) ρ) ak)<|two _ _) ρ) (ah (aq ρ ρ U) ρ) Y) ρ ρ) ρ) ak) ρ s5 ρ) ρ) ρ) ?z1<|au ?_)
   case z1=>let rfl||(d,rfl):=G<;>rfl
   let e:=s3 o x (lo+1+pv) B;let Wt:(o9 o x<|lo+1+pv).length=2:=by$$(o9);split<;>rfl
   let bh:=Og bo B (a:=lo+1+pv) (by lia) (by lia);generalize o9 o x (lo+1+pv)=O at e Wt bh;$$$(ao<|bc (Z2:=.io (pD q4)::.D (.int c)::.D (.int g)::.O (.L<|(os.take j++O++os.drop (j+1)).map cX)::.D (.int (k:Int))::.D (.int (j:Int))::(pY o++[.D (.int D),.D<|.int<|lo+1+pv])) (aq (ah (aq (ah (jt ρ ρ<|ES os j) ρ) (ah (aE (ae (dD ρ ρ ρ ix)<|ae (ah (aq ρ ρ U) ρ)<|ae ρ ak) e) ρ)<|eU ?y1) ρ) (ah (gQ ρ (ah (aq ρ ρ ρ) ρ)<|Cf os j) ρ)<|eU ?y2) ?y3<|au<|bp<|au<|bp<|au<|bp<|se ?y4)
   case y1=>simp?[a8,a8,f'];$$(a9);$_
   case y2=>simp?[fk,a8,a8,a8,f',iW];$$(a9);$_
   case y3=>rw[ft,ft];$ρ
   case y4 =>
    $({_,_,_,_,_,_,_,τ {_,ρ},τ {_,ρ},τ ⟨o,ρ⟩,τ {_,ρ},τ {_,ρ},ρ,?_,?_,C.Ez S bh})
    .rw[fk,fk];lia
    simp?[fk,fk,f',iW];$_
  $(bp<|au<|bp<|au<|bp<|se ?_);$({_,os,_,_,_,_,_,τ {_,ρ},τ {_,ρ},τ ⟨o,ρ⟩,τ {_,ρ},G,ρ,R,h8,C})
 ext Z ⟨q,os,I,N,T,z,v,f4,f5,hT,X,G,rfl,R,h8,C⟩;$$$(au<|ao<|bY ρ<|fN ?_);$({_,_,_,ρ,ρ,os,q,o0,ρ,ρ,h8,M,z0.1,z0.2,C})
def iF (h:cy x=bd):bC x:=by delta cy at h;simp?[ec]at h;let(((h0,h1),b),_):=h;$({?_,by lia});rw[qo];ext a c;let:=ib.1 b a<|qt.2 c;unfold gw at this;simp;lia
theorem HP{e f:Type}:∀(c:List e) (d:List f),(c.zip d).map (·.1)=c.take d.length
 |[],d=>by simp
 |a::c,[]=>by simp
 |a::c,b::d=>by simp?[ab5,fR,HP c d,fq,List.take_succ_cons]
def yk (h:∀x∈rs,x<=W)(hw:W∈rs):fP rs=W:=by let h1:=o5 hw;let h2:=h _<|oR (λz=>by rw[z]at hw;$$$hw);lia
def Sm(rs:Fl):Prop:=∀x∈rs,x.2.r<=2 ^ 90/\x.2.t<=2 ^ 90
theorem Uj{d:List ew}{os:List Ob}{a:Ob}{rs:Fl}(hw:∀x∈d,cy x=bd)(nw:d.Nodup)(h12:d.length=12)(h8:os.length<=8)(n:Bx a)(j:a.l=0)(k:a.b=0)(c:Cuts a os)(p:rs.Perm (d.zip os)):aQ rs/\fF rs/\Sm rs:=by
 let q:(d.zip os).length=os.length:=by rw[aeS];lia
 let hl:rs.length=os.length:=by rw[p.length_eq,q]
 let s:(d.zip os).map (·.2)=os:=acz (by lia);let u:(d.zip os).map (·.1)=d.take os.length:=HP d os;let g:Cuts a (rs.map (·.2)):=c.perm (by rw[<-s];$(p.map _));let m:∀x∈rs,cy x.1=bd:=λx hx=>hw x.1 (abA<|p.mem_iff.1 hx).1;let h:∀x∈rs,a.l<=x.2.l/\x.2.l<x.2.r/\x.2.r<=a.r/\a.b<=x.2.b/\x.2.b<x.2.t/\x.2.t<=a.t:=λx hx=>g.aU x.2<|a5.2 ⟨x,hx,ρ⟩
 unfold Bx at n;let(y,i,k1,k2,k3,k4):=filled (W:=a.r.toNat) (H:=a.t.toNat) (os:=rs.map (·.2)) (x:=a.r-1) (y:=a.t-1) (λo v=>by
  let:=g.aU o v;$({∅,∅,∅,∅,∅,∅})) g.ap (by
  rw[g.ar];$$(Ob.area);rw[j,k,abD,abD,ti ∅,ti ∅]) ∅ ∅ ∅ ∅
 let(z,f,rfl):=a5.1 i;let iz:=h z f;let A:cI rs=a.r:=yk (λx hx=>by let(y,i,rfl):=a5.1 hx;$((h y i).2.2.1))<|a5.2 ⟨z,f,∅⟩
 let B:cz rs=a.t:=yk (λx hx=>by let(y,i,rfl):=a5.1 hx;$((h y i).2.2.2.2.2))<|a5.2 ⟨z,f,∅⟩
 $({{λe=>(by rw[e]at f;$$$f),by lia,m,λx hx=>?_,?_,hF.1 g.ap,?_},{λx hx=>iF<|m x hx,λx hx=>?_,by lia},λx hx=>?_})
 .let:=h x hx;$_
 .$((p.map (·.1)).nodup_iff.2 ?_);rw[u];$(k9 (aev _ _) nw)
 .let:=g.ar;rw[fm]at this;$$(nj);simp?[A,B,show(λx:ew×Ob=>x.2.area)=(Ob.area ∘ λx:ew×Ob=>x.2)from ρ,this];$$(Ob.area);simp?[j,k,abD,abD]
 .let:=h x hx;$_
 let:=h x hx;lia
def A0(fn:dB):Prop:=∀(p:Int×Int) (a:Int),1<=a->a<=10->∃r b,fn (pD p) [.int a]=ac (r,b)/\∃(rs:Fl) (c:Int×Int),r=.O (aC rs)/\b=pD c/\aQ rs/\fF rs/\Sm rs
theorem G5{i:Nat}{Z Z1:DS}{xs:List Dat}{n:Int}{d:Dat}{fa:AF}(h:(Z[i]?).bind ownOf=ac (false,.L xs))(a:fa Z=ac ([.int n,d],Z1))(b:(Z1[i]?).bind ownOf=ac (false,.L xs))(c:0<=n/\n<=xs.length/\xs.length<a9):iM i tM fa Z=ac (.aP,Z1.set i<|.O<|.L (xs.take n.toNat++d::xs.drop n.toNat)):=by$$(iM);simp?[h];simp?[gD];rw[a];dsimp[gD];rw[b];dsimp[gD];show(if 0<=n/\n<=xs.length/\xs.length<a9 then _ else al).map _=_;rw[if_pos c];rfl
def Nf(x)(o):mJ (.U [.str x]) (cX o)=ac (.D<|az (x,o)):=by show(if[Dat.str x].length+[Dat.int o.l,.int o.b,.int o.r,.int o.t].length<=a9 then ac (Res.D<|.U<|[Dat.str x]++[Dat.int o.l,.int o.b,.int o.r,.int o.t])else al)=_;rw[if_pos (by show 5<=a9;$$(a9);decide)];rfl
theorem K6(T:Txt mg)(v:ik mg)(V:aN P w K mg base "_law_take" 1 (dr K 0 gn)){g:dB}(W:aN P w K mg base "_law_names" 2 (dr K 0 g))(X:CZ g){h:dB}(Y:aN P w K mg base "_law_cut_up" 3 (dr K 0 h))(s3:Hf h){f:cA}{z:gi}(F:ba K "_law_rows" "_law_rows" yW f z):∃fn,aS P w K mg base aT 4 f z ["_law_purse_here","_law_most"] (dr K 0 fn)/\A0 fn:=by
 $$$(pZ (j:=0) F Dz (n:=1) ρ ?B ?C)
 case B=>ext cdv A outer s H E c;let nd:=Dz.nd;$$$T;$$$v;let lk:j7 "_law_purse_here":=⟨trivial⟩;$("S")
 clear T v F V W Y;ext p b G i;$$$(pf ρ ?w);show WS _ [.io (pD p),.D<|.int b,.no,.no,.no] _;let(r,D,e1,a,l,rfl,rfl,hw,I,J):=X p;$$$(ao<|bc (Z2:=[.io (pD l),.D<|.int b,.O<|.L<|a.map .str,.no,.no]) (dz ρ ak ρ e1 ρ) ρ<|au ?_);$$$(ao<|bc (Z2:=[.io (pD l),.D<|.int b,.O<|.L<|a.map .str,.O<|aC [],.no]) (dW ak<|rp _) ρ<|au ?_);let(r,D,e2,os,q2,o0,rfl,rfl,h8,b0,l0,d0,B):=s3 l b G i;$$$(ao<|e8 (λk Z=>∃(q:Int×Int) (rs:Fl) (e:Slot),Fr e/\Z=[.io (pD q),.D<|.int b,.O<|.L<|a.map .str,.O<|aC rs,e]/\rs.length=k/\rs.Perm ((a.zip os).take k)) (bX<|ah (dz ρ (ae ρ ak) ρ e2 ρ) ρ) ?h0 ?st ?L)
 case h0=>$({_,[],.no,ι ρ,ρ,ρ,List.Perm.refl _})
 case st =>
  ext k y M Z ⟨q,rs,e,N,rfl,O,c⟩;rw[ee]at M;let(o,Q,rfl):=gs.1 M;let hkl:k<os.length:=(bg.1 Q).1;let R:du (aC rs)=ac rs.length:=by simp[aC,du]
  $({[.io (pD q),.D<|.int b,.O<|.L<|a.map .str,.O<|aC rs,.D<|cX o],by let rfl||(d,rfl):=N<;>rfl,?_});let t:=fQ q ((rs.length:Int)+1)<|Bx.lg ∅ (by lia);let(u1,u2):=fU q (m:=(rs.length:Int)+1) ∅;generalize br q ((rs.length:Int)+1)=n at t u1 u2;generalize cQ q ((rs.length:Int)+1)=S at t;obtain⟨x,ex⟩:∃x,a[rs.length]?=ac x:={_,b8 (by lia)};let ix:dJ (.L<|a.map .str) (.int (rs.length:Int))=ac (.str x):=by simp?[oK];$(nh (by rw[ee,ex];rfl))
  let hl8:rs.length<8:=by lia
  $$$(ao<|rT (G5 (xs:=rs.map az) (n:=n) (d:=az (x,o)) (Z1:=[.io (pD S),.D<|.int b,.O<|.L<|a.map .str,.O<|aC rs,.D<|cX o]) ?D (ae (ah (dz ρ (ae (ah (aq (eG ρ R) ρ ρ) ρ) ak) ρ t ρ) ρ)<|ae (ah (aq (hU (ae (dD ρ (eG ρ R) ρ ix) ak) ?c2) ρ<|Nf x o) ρ) ak) ?c3 ?c4)<|au<|bp<|se ?c5)
  case D=>$ρ
  case c2=>show 1<=a9;$$(a9);decide
  case c3=>$ρ
  case c4=>rw[a8];$$(a9);$_
  $({S,rs.take n.toNat++(x,o)::rs.drop n.toNat,.D<|cX o,τ ⟨_,ρ⟩,?_,?_,?_})
  .$$(aC);simp?[ft,fR,z8,zc];rfl
  .simp?[fk,fq,f',iW];$_
  let u:(a.zip os)[k]?=ac (x,o):=by rw[aam];$({O ▸ ex,Q})
  let(U,u):=bg.1 u;simp?[List.take_succ_eq_append_getElem U,u];$(List.perm_middle.trans ?_);rw[tz];$((ac1 (x,o) rs).symm.trans (c.append_right _))
 ext Z ⟨q,rs,e,N,rfl,O,c⟩;$$$(au<|ao<|bY ρ<|fN ?_);rw[a8,aaw (by rw[aeS];lia)]at c;$({_,_,_,ρ,ρ,rs,q,ρ,ρ,Uj I J hw h8 b0 l0 d0 B c})
theorem BH{a b:ew}(c:cj a b=bd)(d:cj b a=bd):a=b:=vM<|abi (aag.1<|jL.1 c)<|aag.1<|jL.1 d
def An(a):cj a a=bd:=jL.2<|ac3 _
theorem Am(g:Nat->ew):∀k j,j<=k->cj (g<|ace (λi j=>am<|(g i).cps.toList<(g j).cps.toList) k) (g j)=bd
 | 0,j,h=>by
  let:j=0:=by lia
  subst this;$(An _)
 | k+1,j,h=>by
  dsimp[ace];ext(a:(g<|k+1).cps.toList<(g<|ace (λi j=>am<|(g i).cps.toList<(g j).cps.toList) k).cps.toList)
  .rw[if_pos (by$$$$a)];ext(b:j=k+1)
   .subst b;$(An _)
   refine pP _ _ _ ?_ (Am g k j ∅);let:=oy (g<|k+1)<|g<|ace (λi j=>am<|(g i).cps.toList<(g j).cps.toList) k;rw[aeU]at this;let z||z:=this
   .exact z
   exact absurd a<|jL.1 z
  rw[if_neg (by$$$$a)];ext(b:j=k+1)
  .subst b;$(jL.2 a)
  exact Am g k j ∅
theorem B6{ns:List ew}{x:ew}(h:x∈ns):cj (dn ns) x=bd:=by
 let(j,a,e):=nS h;let key:=Am (λi=>(ns[i]?).getD ow) (ns.length-1) j ∅;$$(dn);rw[<-e];let:(ns[j]?).getD ow=ns[j]:=by rw[b8 a];rfl
 simp?[<-this];$key
theorem Vz{l a:List ew}(p:l.Perm a):dn l=dn a:=by
 ext(h:l=[])
 .$$h;rw[p.nil_eq]
 let h':a≠[]:=λz=>h (by rw[z]at p;$p.eq_nil);$(BH (B6<|p.mem_iff.2<|ki h')<|B6<|p.mem_iff.1<|ki h)
theorem tK{a b:List ew}{m:ew}(c:dn (a++m::b)=m)(h:m∉a):aK (a++m::b)=m::b++a:=by
 let e:(a++m::b).findIdx? (λx=>am<|x=dn (a++m::b))=ac a.length:=by
  rw[c,List.findIdx?_append,aan.2 (λx hx=>by rw[decide_eq_false_iff_not];ext z;$(h<|z ▸ hx)),ab7]
  simp
 unfold aK;rw[e];simp
theorem Oq{A B:List ew}(h:(A++B).Nodup):aK (B++A)=aK (A++B):=by
 ext(c:A++B=[])
 .rw[adx]at c;rw[c.1,c.2]
 let pm:(B++A).Perm (A++B):=aaD;let g:=ki c;let em:=Vz pm;generalize i:dn (A++B)=m at g em;rw[hM]at h;let(j,k,f):=h;let l||n:=el.1 g
 .let(a,d,rfl):=aeb l;let n1:m∉a:=λz=>by rw[hM]at j;$(j.2.2 m z m ⋯ ρ)
  let n2:m∉B++a:=λz=>by
   let z||z:=el.1 z
   .$(f m ⋯ m z ρ)
   $(n1 z)
  simp?[show B++(a++m::d)=(B++a)++m::d from by simp,tK (by$$$$em) n2,show(a++m::d)++B=a++m::(d++B)from by simp,tK (by$$$$i) n1];simp
 let(b,e,rfl):=aeb n;let n1:m∉b:=λz=>by rw[hM]at k;$(k.2.2 m z m ⋯ ρ)
 let n2:m∉A++b:=λz=>by
  let z||z:=el.1 z
  .$(f m z m ⋯ ρ)
  $(n1 z)
 simp?[show(b++m::e)++A=b++m::(e++A)from by simp,tK (by$$$$em) n1,show A++(b++m::e)=(A++b)++m::e from by simp,tK (by$$$$i) n2];simp
def BU(l):∃A B,l=A++B/\aK l=B++A:=by
 delta aK;split
 .rename_i i _;$({l.take i,l.drop i,(tz i l).symm,ρ})
 $({[],l,ρ,⋯})
def rL(k:Nat)(a b:ew×Ob):Bool:=am<|d9 k a.2<=d9 k b.2
def VA(rs)(x):dc rs x 4=eZ rs x 0++eZ rs x 1++eZ rs x 2++eZ rs x 3:=by simp?[mZ,mZ,mZ];rfl
def aQ.R6 (F:aQ rs)(c:y∈rs)(d:z∈rs)(e:y.1=z.1):y=z:=by
 let:rs.Pairwise λa b=>a.1≠b.1:=hF.1 F.nd;let h||h||h:=kE this c d
 .$h
 .$(absurd e h)
 $(absurd e.symm h)
def GU(k):cy (bf k)=bi:=by
 delta bf;split
 .decide +kernel
 split
 .decide +kernel
 split<;>decide +kernel
def RD (c:j<4)(d:k<4)(h:bf j=bf k):j=k:=by
 let key:∀a b:Fin 4,bf a.val=bf b.val->a=b:=by decide +kernel
 $(congrArg Fin.val<|key ⟨j,c⟩ ⟨k,d⟩ h)
def pz(rs:Fl):List (ew×List ew):=(rs.map λy=>(y.1,aK<|dc rs y.2 4)).mergeSort λa b=>cj a.1 b.1
theorem QQ(rs:Fl):wH rs=(pz rs).map pairD:=by unfold wH pz iH;rw[tR (r:=λa b:ew×List ew=>cj a.1 b.1) (s:=dN) (f:=pairD) (λa _ b _=>rfl),fm];rfl
def gO(c:Int)(o:Ob):Ob:={c*o.l,c*o.b,c*o.r,c*o.t}
variable{rs:Fl}
theorem K9{a:Type}{l:List a}{f g:a->Int}(h:∀x∈l,f x=g x):(l.map f).sum=(l.map g).sum:=by rw[sH h]
theorem Dp{b:Type}(c:Int)(f:b->Int):∀l:List b,(l.map λx=>c*f x).sum=c*(l.map f).sum
 |[]=>by simp
 |a::l=>by rw[fR,fR,pR,pR,Dp c f l,Int.mul_add]
theorem L3{a:Ob->Ob}:(rs.map λy=>(y.1,a y.2)).map (·.1)=rs.map (·.1):=by rw[fm];rfl
theorem aQ.RE(F:aQ rs){T:ew×Ob->ew×Ob}(h:∀x y:ew×Ob,Apart x.2 y.2->Apart (T x).2 (T y).2):(rs.map T).Pairwise λx y=>Apart x.2 y.2 :=
 hF.2 (F.ap.imp λ{x y} a=>h x y a)
theorem Cr{l:List Int}(a:l≠[]){c:Int}(b:0<=c):fP (l.map λx=>c*x)=c*fP l:=yk (λz d=>by let(y,e,rfl):=a5.1 d;$(acM (o5 e) b))<|a5.2 ⟨_,oR a,ρ⟩
theorem aQ.Rz(F:aQ rs)(h:∀x∈rs,x.2.r<2 ^ 205/\x.2.t<2 ^ 205):fF rs:={λx hx=>iF<|F.nm x hx,λx hx=>by let a:=F.row x hx;let b:=h x hx;$_,by let:=F.aY;$_}
theorem UT(T:Txt mg){f:cA}{d:gi}(F:ba K "_law_begun" "_law_begun" AM f d):∃fn,aS P w K mg base aT 1 f d ["_law_names_here"] (ay K fn)/\rA fn:=by
 $$$(bQ F Ho (n:=1) ρ ?C ?B)
 case C=>let nd:=Ho.nd;$("h")
 clear T F;ext ns a hz b;$$$(bT ρ ?w);show WS _ [.D (.L<|ns.map .str),.no] _;let h:=oO b;obtain⟨j,c⟩:∃j,ns.findIdx? (λx=>am<|x=dn ns)=ac j:=by
  cases e:ns.findIdx? (λx=>am<|x=dn ns)with
  |some j=>$(⟨j,ρ⟩)
  |none=>rw[aan]at e;let:=e _<|ki a;simp at this
 let hj:j<ns.length:=(nk.1 c).1;let g:=b _<|ki a;let em:mN [.L (ns.map .str)]=ac (.D<|.str<|dn ns):=by let:=A2 (λx:ew=>x) a;rw[y0]at this;$this
 $$$(ao<|bc (v_res<|sU ρ (ae (ah (aE (ae ρ ak) em) ρ) ak) h (gv g.ok)<|(sM b g).trans c) ρ<|au ?_);show WS _ [.D (.L<|ns.map .str),.D<|.int (j:Int)] _;let i:fD (.L<|ns.map .str) (ac (j:Int)) al=ac (.O<|.L<|(ns.drop j).map .str):=by show ac (Res.O<|.L<|cutD (ns.map Dat.str) (ac (j:Int)) al)=_;rw[nQ,zc]
 let k:fD (.L<|ns.map .str) al (ac (j:Int))=ac (.O<|.L<|(ns.take j).map .str):=by show ac (Res.O<|.L<|cutD (ns.map Dat.str) al<|ac (j:Int))=_;rw[mH,z8]
 $$$(ao<|bY (aq (ah (gQ ρ ρ i) ρ) (ah (jt ρ ρ k) ρ)<|eU ?D) ?G)
 case D=>rw[a8,a8,iW,f'];$$(a9);$_
 $$(aK);rw[c,ft];$({_,ρ})
def TK (h:(Z[i]?).bind ownOf=ac (false,.L xs))(a:fa Z=ac ([d],Z1))(b:(Z1[i]?).bind ownOf=ac (false,.L xs))(c:xs.length<a9):iM i pV fa Z=ac (.aP,Z1.set i<|.O<|.L<|xs++[d]):=by delta iM;rw[h];rw[a];show((Z1[i]?).bind ownOf).bind _=_;rw[b];show(if xs.length<a9 then ac (Dat.aP,Dat.L<|xs++[d])else al).map _=_;rw[if_pos c];rfl
end
def cW(rs:Fl):Ob:={0,0,cI rs,cz rs}
def allR(rs:Fl):Fl:=rs++km rs
def FP(rs):km rs=[(bf 0,wall (cW rs) 0),(bf 1,wall (cW rs) 1),(bf 2,wall (cW rs) 2),(bf 3,wall (cW rs) 3)]:=ρ
def wk(rs):(allR rs).map (·.2)=rs.map (·.2)++walls (cW rs):=by delta allR;rw[ft,FP];rfl
def HG (F:aQ rs):(cW rs).ok:=⟨F.pos.1,F.pos.2⟩
def Hk (a:k<4):Up (aa k x) (aa k y)↔dw k x y=bd:=by
 let a:k=0\/k=1\/k=2\/k=3:=by lia
 let rfl||rfl||rfl||rfl:=a<;>simp[Up,aa,ag,dw,lN]<;>lia
theorem Ep(p):∀(rs:Fl),(rs.filter λy=>am<|p∈iZ y.2).length<=(cV rs).count p
 |[]=>eS _
 | y::rs=>by
  let ih:=Ep p rs;let e:cV (y::rs)=iZ y.2++cV rs:=ρ;simp[e];ext(h:p∈iZ y.2)
  .rw[List.filter_cons_of_pos (by$$$$h),fq];let:=aea.2 h;lia
  rw[List.filter_cons_of_neg (by$$$$h)];lia
def aQ.Qr (F:aQ rs)(j:lh rs=bi):aD (cW rs) (rs.map (·.2)) where
 aU:=λo l=>by let(x,hx,rfl):=a5.1 l;let a:=F.row x hx;let b:=F.dQ hx;$(⟨a.1,a.2.1,b.1,a.2.2.1,a.2.2.2,b.2⟩)
 ap:=λa s b u=>by
  let(x,hx,rfl):=a5.1 s;let(y,c,rfl):=a5.1 u;let e||e||e:=kE F.ap hx c
  .$(ι (by rw[e]))
  .$(τ e)
  $(τ e.symm)
 hit:=λp q v w A B=>by let(y,c,h):=F.hit v w A B;$({y.2,a5.2 ⟨y,c,ρ⟩,h})
 four:=λx hx n C m k z D h=>by
  let(x,d,rfl):=a5.1 hx;let(n,f,rfl):=a5.1 C;let(m,g,rfl):=a5.1 k;let(z,i,rfl):=a5.1 D;let rn:=F.row n f;let rm:=F.row m g;let rz:=F.row z i;delta lh at j;rw[decide_eq_false_iff_not]at j;let(E,G,H,I,J,K):=h;let key:=Ep (x.2.r,x.2.t) rs;let L:[x,n,m,z].length<=(rs.filter λy=>am<|(x.2.r,x.2.t)∈iZ y.2).length:=by
   $(agp ?_ ?_)
   .let n1:x≠n:=λe=>by$$e;lia
    let n2:x≠m:=λe=>by$$e;$_
    let n3:x≠z:=λe=>by$$e;$_
    let M:n≠m:=λe=>by$$e;$_
    let N:n≠z:=λe=>by$$e;$_
    let O:m≠z:=λe=>by$$e;lia
    simp[n1,n2,n3,M,N,O]
   ext y c;rw[gg,decide_eq_true_eq];simp at c;let rfl||rfl||rfl||rfl:=c
   .$({d,by simp[iZ]})
   .$({f,by simp[iZ,E,G]})
   .$({g,by simp[iZ,H,I]})
   $({i,by simp[iZ,J,K]})
  simp?[fq,T']at L;$(j {(x.2.r,x.2.t),aea.1 ∅,∅})
def aQ.FZ (F:aQ rs):((allR rs).map (·.2)).Nodup:=by
 rw[wk,hM];$({?_,?_,?_})
 .$(hF.2 (F.ap.imp_of_mem λ{x y} hx hy h e=>?_));let a:=F.row x hx;grind [Apart]
 .let i:∀{j k:Nat},j<4->k<4->j≠k->wall (cW rs) j≠wall (cW rs) k:=λf g c e=>c (kS (HG F) f g e);let e:walls (cW rs)=[wall (cW rs) 0,wall (cW rs) 1,wall (cW rs) 2,wall (cW rs) 3]:=ρ;simp!
 ext a m b d e;$$e;let(x,hx,rfl):=a5.1 m;let r:=F.row x hx;let b:=F.dQ hx;simp[walls]at d;let h||h||h||h:=d<;>(let n:=congrArg Ob.l h;let o:=congrArg Ob.b h;let p:=congrArg Ob.r h;let q:=congrArg Ob.t h;dsimp[wN,wE,wS,wW,cW]at n o p q;$_)
def lK:y∈allR rs↔y∈rs\/∃k,k<4/\y=(bf k,wall (cW rs) k):=by
 delta allR;rw[el,FP];apply or_congr Iff.rfl;constructor
 .ext h;simp at h;let h||h||h||h:=h
  .$({0,⋯,h})
  .$({1,⋯,h})
  .$({2,⋯,h})
  $({3,⋯,h})
 ext⟨k,a,rfl⟩;let a:k=0\/k=1\/k=2\/k=3:=by lia
 grind
def aQ.K4 (F:aQ rs)(a:y∈allR rs)(b:z∈allR rs)(e:y.1=z.1):y=z:=by
 let a||(j,c,rfl):=lK.1 a<;>let b||(k,d,rfl):=lK.1 b
 .$(F.R6 a b e)
 .let:=F.nm y a;simp![GU]
 .let:=F.nm z b;rw[<-e,GU]at this;lk
 let:=RD c d e;$$this;rfl
def nF(rs:Fl)(o:Ob):Str:=(((allR rs).find? λy=>am<|y.2=o).map (·.1)).getD ""
theorem aQ.nC (F:aQ rs)(b:y∈allR rs):nF rs y.2=y.1:=by
 delta nF;cases e:(allR rs).find? λz=>am (z.2=y.2)with
 |none=>let:=ab8.1 e y b;simp at this
 |some z =>
  let c:=abc e;let a:=acK e;let a:z.2=y.2:=by$$$$a
  let nd:=F.FZ;let:z=y:=by
   let q||q||q:=kE (hF.1 nd) c b
   .$q
   simp!;$(absurd a.symm q)
  rw[this];rfl
def aQ.yP (F:aQ rs)(b:y∈allR rs):y.2.ok:=by
 let hp:=F.pos;let h||(j,a,rfl):=lK.1 b
 .$(F.ok h)
 let a:j=0\/j=1\/j=2\/j=3:=by lia
 let rfl||rfl||rfl||rfl:=a
 .$({show(0:Int)<cI rs by$_,show cz rs<cz rs+1 by lia})
 .$({show cI rs<cI rs+1 by lia,show(0:Int)<cz rs by$_})
 .$({show(0:Int)<cI rs by$_,show(-1:Int)<0 by$_})
 $({show(-1:Int)<0 by$_,show(0:Int)<cz rs by$_})
def aQ.Di (F:aQ rs)(a:y∈rs)(c:k<4):Apart y.2 (wall (cW rs) k):=by
 let r:=F.row y a;let b:=F.dQ a;let c:k=0\/k=1\/k=2\/k=3:=by lia
 let rfl||rfl||rfl||rfl:=c<;>simp[Apart,wall,wN,wE,wS,wW,cW]<;>$_
def aQ.OL (F:aQ rs)(c:y∈allR rs)(d:z∈allR rs):y=z\/Apart y.2 z.2:=by
 let hp:=F.pos;let h||(j,a,rfl):=lK.1 c<;>let h'||(k,b,rfl):=lK.1 d
 .let e||e||e:=kE F.ap h h'
  .$(ι e)
  .$(τ e)
  $(τ e.symm)
 .$(τ<|F.Di h b)
 .$(τ (F.Di h' a).symm)
 let b:k=0\/k=1\/k=2\/k=3:=by lia
 let a:j=0\/j=1\/j=2\/j=3:=by lia
 let rfl||rfl||rfl||rfl:=a<;>let rfl||rfl||rfl||rfl:=b<;>first|$(ι ρ)|(right;simp[Apart,wall,wN,wE,wS,wW,cW];done)|(right;simp[Apart,wall,wN,wE,wS,wW,cW];$_)
def aQ.uB (F:aQ rs)(hx:x∈rs)(d:k<4):eZ rs x.2 k=(bO ((allR rs).map (·.2)) x.2 k).map (nF rs):=by
 let j:=SN F hx d;let n:(allR rs).filter (λy=>am<|nN x.2 y.2=Option.some k)=(allR rs).filter λy=>am (Up (aa k x.2)<|aa k y.2):=acj λy c=>decide_eq_decide.2<|(AL (F.ok hx) (F.yP c) d).trans (Hk d).symm;let g:∀y∈(allR rs).filter (λy=>am<|Up (aa k x.2)<|aa k y.2),y∈allR rs/\dw k x.2 y.2=bd:=λy c=>by let(o,p):=gg.1 c;$({o,(Hk d).1 (of_decide_eq_true p)})
 change((((allR rs).filter λy=>am<|nN x.2 y.2=Option.some k).map λy=>(d9 k y.2,y.1)).mergeSort λa b=>am<|a.1<=b.1).map (·.2)=_ at j;rw[n]at j;rw[<-j];$$(bO);let q:((allR rs).map (·.2)).filter (λy=>am<|Up (aa k x.2)<|aa k y)=((allR rs).filter λy=>am<|Up (aa k x.2)<|aa k y.2).map (·.2):=aeT;rw[q];generalize hL:(allR rs).filter (λy=>am<|Up (aa k x.2)<|aa k y.2)=L at g;let m:∀a∈allR rs,∀b∈allR rs,dw k x.2 a.2=bd->dw k x.2 b.2=bd->(d9 k a.2<=d9 k b.2↔(aa k a.2).l<=(aa k b.2).l):=λa h b i qa qb=>by
  let e||e:=F.OL h i;simp!;let o1:=F.yP h;let o2:=F.yP i;unfold Apart at e;unfold Ob.ok at o1 o2;let d:k=0\/k=1\/k=2\/k=3:=by lia
  let rfl||rfl||rfl||rfl:=d<;>simp[d9,dw,lN,aa,ag]at *<;>$_
 let t:(L.map λy=>(d9 k y.2,y.1)).mergeSort (λa b=>am<|a.1<=b.1)=(L.mergeSort<|rL k).map λy=>(d9 k y.2,y.1):=(tR (r:=rL k) (s:=λa b:Int×ew=>am<|a.1<=b.1) (f:=λy:ew×Ob=>(d9 k y.2,y.1)) λa _ b _=>rfl).symm
 let u:(L.map (·.2)).mergeSort (λa b=>am<|(aa k a).l<=(aa k b).l)=(L.mergeSort<|rL k).map (·.2):=(tR λa h b i=>by$$(rL);$(decide_eq_decide.2<|m a (g a h).1 b (g b i).1 (g a h).2 (g b i).2)).symm
 simp?[t,u,fm];$(sH λy c=>?_);$((F.nC<|(g y<|List.mem_mergeSort.1 c).1).symm)
def aQ.J2 (F:aQ rs)(hx:x∈rs):dc rs x.2 4=(bD (rs.map (·.2)++walls (cW rs)) x.2).map (nF rs):=by rw[VA,F.uB hx ⋯,F.uB hx ⋯,F.uB hx ⋯,F.uB hx ⋯,wk];delta bD;simp?[ft]
def dg(web:List (ew×List ew))(n:ew):List Str:=((web.find? λp=>am<|p.1=n).map (·.2)).getD []
def iY(a b:ew):Bool:=!cj b a
theorem yx:Order iY where
 fB:=λa=>by$$(iY);rw[An];rfl
 tr:=λa b c d e=>by
  delta iY at *;simp?[l4]at *;cases h:cj c a with
  |false=>rfl
  |true=>let t:=oy b a;rw[d,aff]at t;rw[pP _ _ _ h t]at e;lk
 cG:=λa b h=>by
  delta iY;cases d:cj b a with
  |false=>$(ι ρ)
  |true =>
   cases e:cj a b with
   |false=>$(τ ρ)
   |true=>$(absurd (BH e d) h)
theorem eN (nd:(web.map (·.1)).Nodup)(a:p∈web):dg web p.1=p.2:=by
 delta dg;cases e:web.find? λz=>am (z.1=p.1)with
 |none=>let:=ab8.1 e p a;simp at this
 |some z =>
  let b:=abc e;let c:z.1=p.1:=by$$$$(acK e)
  let:z=p:=by
   let q||q||q:=kE (hF.1 nd) b a
   .$q
   simp!;$(absurd c.symm q)
  rw[this];rfl
def qy(l):hV l (aK l):=by let(A,B,a,b):=BU l;$(⟨A,B,a,b⟩)
def bZ(web:List (ew×List ew)):Prop:=j0 (web.map (·.1)) bf (dg web) iY
def aQ.yc (F:aQ rs)(m:lh rs=bi)(f:web.Perm (rs.map λy=>(y.1,aK<|dc rs y.2 4))):bZ web:=by
 let T:=F.Qr m;let nd:=F.FZ;rw[wk]at nd;let c:∀{x:ew×Ob},x∈rs->x∈allR rs:=λh=>lK.2<|ι h;let o:(rs.map (·.2)).map (nF rs)=rs.map (·.1):=by rw[fm];$(sH λx hx=>F.nC<|c hx)
 let q:(λk=>nF rs<|wall (cW rs) k)=bf:=by
  funext k;ext(r:k<4)
  .$(F.nC<|lK.2<|τ ⟨k,r,ρ⟩)
  let s:wall (cW rs) k=wall (cW rs) 3:=by rw[wall,if_neg ∅,if_neg ∅,if_neg ∅];rfl
  let t:bf k=bf 3:=by delta bf;rw[if_neg ∅,if_neg ∅,if_neg ∅];rfl
  simp?[s,t];$(F.nC<|lK.2<|τ ⟨3,⋯,ρ⟩)
 let g:∀{a:Ob},a∈rs.map (·.2)++walls (cW rs)->∃y∈allR rs,y.2=a:=λ{a} h=>by rw[<-wk]at h;$(a5.1 h)
 let i:=T.yc (ν:=nF rs) (HG F) nd (λa d b u e=>by
  let(y,j,rfl):=g d;let(z,l,rfl):=g u;simp?[F.nC j,F.nC l]at e;rw[F.K4 j l e]) (λa d=>by
  let(x,hx,rfl):=a5.1 d;simp?[F.nC (c hx),<-F.J2 hx];$(eN (p:=(x.1,dc rs x.2 4)) (by rw[fm];$F.nd)<|a5.2 ⟨x,hx,ρ⟩)) yx
 rw[o,q]at i;let pn:(web.map (·.1)).Perm (rs.map (·.1)):=by let:=f.map (·.1);rwa[fm]at this
 $(i.turn pn λn v=>?_);let(x,hx,rfl):=a5.1 v;simp?[eN (web:=rs.map λy=>(y.1,dc rs y.2 4)) (p:=(x.1,dc rs x.2 4)) (by rw[fm];$F.nd) (a5.2 ⟨x,hx,ρ⟩),eN (p:=(x.1,aK<|dc rs x.2 4)) (pn.nodup_iff.2 F.nd)<|f.mem_iff.2<|a5.2 ⟨x,hx,ρ⟩];$(qy _)
local macro_rules | `(tactic| walk_at $s:str)=>Mq.go s "U@L4 A|JK rarA~1@Js ardrrrrA~0@K8 hrVddrU|Ls rrarA|Mg rarA|UU rrrarA|MO rarA~T@Ky hrVddrU|SK hrVddrU|VT DD~I@Vk rarrA|Tb arVdd|IL arVdd|Vd a0~Z@K7 aNrLFrE|T9 aNrLFr|M1 rVhddrDU|SO wTS|Sz"
section
variable{P:hE}{w:iR}{K:e6}{mg:ew->Option bt}{base:k7}
abbrev Er:List Str:=["north","east","south","west"]
abbrev pH:Dat:=.U [.str "north",.str "east",.str "south",.str "west"]
def yT(fn:aJ):Prop:=∀k,k<4->fn [.str (bf k)]=ac (.D<|.str<|bf<|(k+1)%4)
def Ow(T:Txt mg)(w1:eB K mg "WALLS" pH)(w2:zj K mg "WALLS" Er)(F:ba K "follower" "follower" zw f a):∃fn,aS P w K mg base aT 1 f a ["wall"] (ay K fn)/\yT fn:=by
 $$$(bQ F EB ρ ?C ?B)
 case C=>$("h")
 ext k hk;let:k=0\/k=1\/k=2\/k=3:=by lia
 let rfl||rfl||rfl||rfl:=this<;>rfl
def zf(ns:List ew)(k:Nat):fD (.L<|ns.map .str) (ac (k:Int)) al=ac (.O<|.L<|(ns.drop k).map .str):=by show ac (Res.O<|.L<|cutD (ns.map Dat.str) (ac (k:Int)) al)=_;rw[nQ,zc]
def uh(ns:List ew)(k:Nat):fD (.L<|ns.map .str) al (ac (k:Int))=ac (.O<|.L<|(ns.take k).map .str):=by show ac (Res.O<|.L<|cutD (ns.map Dat.str) al<|ac (k:Int))=_;rw[mH,z8]
def eY (h:c Z=ac (b,Z1))(a:b=bi)(n:WS g Z1 Q):WS (iQ (kR c s wB) g) Z Q :=
 ao (eA h (λz=>by rw[a]at z;$$$z) λ_=>bp<|au n)
def Gz(fn:aJ):Prop:=∀p:ew×List ew,cy p.1=bd->bC p.1->fn [pairD p]=ac (.D<|.bl true)
def R4(T:Txt mg)(g:aN P w K mg base "is_name" 1 (ay K c))(i:y9 c)(F:ba K "is_pair" "is_pair" wR f d):∃fn,aS P w K mg base aT 2 f d ["thing"] (ay K fn)/\Gz fn:=by
 $$$(bQ F B7 ρ ?C ?B)
 case C=>$("h")
 ext p h j;let e:=i p.1 j;rw[h]at e;$$$(bT ρ ?w);$$$(eY ?a ρ ?b)
 case a=>$("v")
 $(ao<|bY (v_res<|zB (ah (aE (ae (dD ρ ρ ρ ρ) ak) e) ρ)<|Fj (dD ρ ρ ρ ρ) ρ) ⟨_,ρ⟩)
def Mi(room:ew)(ring names:List ew):Prop:=3<=ring.length/\ring.length<100/\(∀n∈ring,n∈names/\n≠room)/\ring.Nodup/\bC room/\(∀n∈ring,bC n)/\∀n∈names,bC n
def GH(fn:aJ):Prop:=∀(room:ew) (ring names:List ew),Mi room ring names->fn [.str room,.L<|ring.map .str,.L<|names.map .str]=ac (.D<|.bl true)
def n9{ns:List ew}(a:∀x∈ns,bC x){m:ew}(b:bC m)(neg:Bool):iO neg (.str m) (.L<|ns.map .str)=ac (.D<|.bl (if neg then !am (m∈ns)else am (m∈ns))):=by
 rw[Gd b.ok (λy c=>(a y c).ok)];let:(ns.any λy=>am<|y=m)=am (m∈ns):=by rw[qh];simp
 rw[this]
def Cq (hx:bC x)(a:bC y):fE true (.str x) (.str y)=ac (.D<|.bl<|!am (x=y)):=by rw[va (gv hx.ok) (gv a.ok),kh]
def qm{a:Type}{enc:a->Dat}{caps:List (Option Nat)}{fi:IF}{g:GF}{fe:DF}{xs:List a}{Z Z1 Z2:DS}(put:a->DS)(hi:fi Z=ac (xs.map enc,Z1))(b:aZ al caps Z1=Z2)(c:xs.length<=a9)
 (d:∀x∈xs,∀Z,(Z=cD caps Z2\/∃y,Z=put y)->g (enc x) Z=ac (put x))(e:∀x∈xs,fe (put x)=ac (.bl true,put x))(f:∀x∈xs,noOwn (put x)=bd) :
  cE ou (dm (gp<|eO caps al fi g (λZ=>ac (true,Z)) fe) gm) Z=ac (.D<|.bl true,Z2):=by
 apply aE<|ae (ah (dy put (λ_=>.bl true) hi b c d e f) ρ) ak;let:=xI (λ_:a=>true) xs;rw[show xs.all (λ_=>true)=bd from by simp]at this;$this
theorem SH(T:Txt mg)(w3:eB K mg "FEWEST_NEIGHBOURS" (.int 3))(hs:mg "set"=al){f:cA}{d:gi}(F:ba K "is_ring" "is_ring" AZ f d):∃fn,aS P w K mg base aT 1 f d ["room","ring","names"] (ay K fn)/\GH fn:=by
 $$$(bQ F FI ρ ?C ?B)
 case C=>let nd:=FI.nd;$("h")
 ext room ring names ⟨h1,h2,e,j,k,g,l⟩;$$$(bT ρ ?w);let sz:ring.length<=sizeLine:=by$$(a9);lia
 $$$(eY ?a ?D ?L)
 case a=>$("v")
 case D=>simp;$_
 $$$(eY (gE<|eC (ah (qm (λn=>[.no,.D<|.str n,.D<|.L<|names.map .str,.D<|.str room]) (bX ρ) ρ sz ?G ?I ?J) ρ) ρ) ρ ?b)
 case G=>ext y hy Z hd;let rfl||(z,rfl):=hd<;>rfl
 case I=>ext n c;let h:=n9 l (g n c) false;let i:=Cq (g n c) k;rw[decide_eq_true (e n c).1]at h;rw[decide_eq_false (e n c).2]at i;$(zB (ah (aq ρ ρ h) ρ)<|ah (aq ρ ρ i) ρ)
 case J=>ext n c;rfl
 $(ao<|bY (aq (zt (λx=>x) ρ ∅) (eG ρ ρ) ui)<|fh ?_);rw[y0,(wK ring).2 j,a8];$(decide_eq_true ρ)
def cB:List Str:=[bf 0,bf 1,bf 2,bf 3]
structure bJ (web:List (ew×List ew)):Prop where
 aY:1<=web.length/\web.length<=8
 nm:∀p∈web,cy p.1=bd
 nd:(web.map (·.1)).Nodup
 rg:∀p∈web,3<=p.2.length/\p.2.Nodup/\∀n∈p.2,(n∈web.map (·.1)\/n∈cB)/\n≠p.1
def G6(fn:aJ):Prop:=∀web:List (ew×List ew),bJ web->fn [.L (web.map pairD)]=ac (.D<|.bl true)
def xA:∀n∈cB,bC n:=by ext n a;simp[cB]at a;let rfl||rfl||rfl||rfl:=a<;>$({by decide +kernel,by decide +kernel})
def bJ.txt (h:bJ web)(a:n∈web.map (·.1)\/n∈cB):bC n:=by
 let a||a:=a
 .let(p,b,rfl):=a5.1 a;$(iF<|h.nm p b)
 $(xA n a)
theorem Bm [DecidableEq b]:∀{l m:List b},l.Nodup->(∀x∈l,x∈m)->l.length<=m.length
 |[],_,_,_=>rp _
 |a::l,m,c,h=>by let d:=Bm (l:=l) (m:=m.erase a) (iN.1 c).2 λx hx=>(List.mem_erase_of_ne λz=>(iN.1 c).1 (by rw[<-z];$hx)).2 (h x<|eH _ hx);rw[List.length_erase_of_mem (h a eR)]at d;let:=adw<|h a eR;simp;lia
def bJ.len (h:bJ web)(b:p∈web):p.2.length<=12:=by
 let a:=(h.rg p b);let:p.2.length<=(web.map (·.1)++cB).length:=by$(Bm a.2.1 λn c=>el.2 (a.2.2 n c).1)
 rw[fk,a8]at this;let:=h.aY;let:cB.length=4:=ρ;lia
theorem Td(T:Txt mg)(w1:eB K mg "WALLS" pH)(w3:eB K mg "MOST_ROOMS" (.int 8))(hs:mg "set"=al){e g:aJ}(k:aN P w K mg base "is_pair" 2 (ay K e))(l:Gz e)(m:aN P w K mg base "is_ring" 1 (ay K g))(o:GH g){f:cA}{i:gi}(F:ba K "has_form" "has_form" xo f i):∃fn,aS P w K mg base aT 3 f i ["web"] (ay K fn)/\G6 fn:=by
 $$$(bQ F Ek ρ ?C ?B)
 case C=>let nd:=Ek.nd;$("h")
 ext web h;$$$(bT ρ ?w);let hl:=h.aY;let sz:web.length<=sizeLine:=by$$(a9);lia
 $$$(eY ?a ?D ?a3)
 case a=>$("v")
 case D=>simp;lia
 $$$(eY (gE<|eC (ah (qm (enc:=pairD) (xs:=web) (λp=>[.no,.D<|pairD p]) (bX ρ) ρ sz ?G ?I ?J) ρ) ρ) ρ ?b)
 case G=>ext y j Z hd;let rfl||(z,rfl):=hd<;>rfl
 case I=>ext p c;let:=l p (h.nm p c)<|iF<|h.nm p c;$("v")
 case J=>ext n d;rfl
 show WS _ [.D (.L<|web.map pairD),.no,.no] _;$$$(ao (bc (Z2:=[.D (.L<|web.map pairD),.O (.L ((web.map (·.1)).map .str)),.no]) (dy (enc:=pairD) (xs:=web) (λp=>[.no,.D<|.str p.1,.D<|.L<|p.2.map .str]) (λp=>.str p.1) (bX ρ) ρ sz ?L ?M ?N) ?O<|au ?Q))
 case L=>ext y j Z hd;let rfl||(z,rfl):=hd<;>rfl
 case M=>ext p c;rfl
 case N=>ext p c;rfl
 case O=>rw[fm];rfl
 $$$(eY (bB (aq (zt (cs:=web.map (·.1)) (λx=>x) ρ ?R) (eG ρ ρ)<|ne_int _ _)) ?S ?U)
 case R=>rw[a8];$_
 case S=>simp?[y0,(wK _).2 h.nd,a8];simp
 $$$(ao (bc (Z2:=[.D (.L<|web.map pairD),.D (.L ((web.map (·.1)).map .str)),.O (.L ((web.map (·.1)++cB).map .str))]) (aq ρ (ah (aE (ae ρ ak) ρ) ρ)<|eU ?V) ?W<|au ?X))
 case V=>simp[a9];lia
 case W=>rw[ft];rfl
 $$$(ao (bY (qm (enc:=pairD) (xs:=web) (λp=>[.no,.D<|.str p.1,.D<|.L<|p.2.map .str,.D (.L ((web.map (·.1)++cB).map .str))]) (bX ρ) ρ sz ?Y ?f5 ?f6) {_,ρ}))
 case Y=>ext y j Z hd;let rfl||(z,rfl):=hd<;>rfl
 case f6=>ext p c;rfl
 ext p c;let r:=h.rg p c;let:=o p.1 p.2 (web.map (·.1)++cB) {r.1,by let:=h.len c;lia,λn d=>{el.2 (r.2.2 n d).1,(r.2.2 n d).2},r.2.1,iF<|h.nm p c,λn d=>h.txt (r.2.2 n d).1,λn d=>h.txt<|el.1 d};$("v")
abbrev bb:=List<|ew×List ew
def dH(web:bb):List (ew×Dat):=web.map λp=>(p.1,.L<|p.2.map .str)
def bH(web:bb):Dat:=.eQ<|dH web
def US{c:Type}{l:List (ew×c)}(nd:(l.map (·.1)).Nodup){p q:ew×c}(d:p∈l)(f:q∈l)(e:p.1=q.1):p=q:=by let(i,hi):=abF.1 d;let(j,b):=abF.1 f;cases kd nd (a:=p.1) (by rw[ee,hi];rfl) (j:=j) (by simp?[ee,b,e];rfl);rw[hi]at b;$(Option.some.inj b)
theorem mG (nd:(web.map (·.1)).Nodup)(a:p∈web):dC (dH web) p.1=ac (.L<|p.2.map .str):=by
 let e:(web.find? λq=>am<|q.1=p.1)=ac p:=by
  cases e:web.find? λq=>am (q.1=p.1)with
  |none=>$(absurd (ab8.1 e p a) ⋯)
  |some q=>let b:=abc e;let c:=acK e;rw[US nd b a (by$$$$c)]
 dsimp[dC,dH];rw[List.find?_map];show((web.find? λq=>am<|q.1=p.1).map _).map _=_;rw[e];rfl
def N7(web)(n):(dC (dH web) n).isSome=am (n∈web.map (·.1)):=by dsimp[dC,dH];rw[qh];simp
def uw(web)(n)(neg):iO neg (.str n) (bH web)=ac (.D (.bl (if neg then !am (n∈web.map (·.1))else am (n∈web.map (·.1))))):=by rw[<-N7];rfl
def iu{a:Type}{l:List a}{k:Nat}{x:a}(h:l[k]?=ac x):l.take (k+1)=l.take k++[x]:=by rw[ac0,h];rfl
def F1(fn:aJ):Prop:=∀web:bb,bJ web->(∀p∈web,∀q∈web,q.1∈p.2->p.1∈q.2)->fn [bH web]=ac (.D<|.bl true)
theorem T1(T:Txt mg){f:cA}{l:gi}(F:ba K "ties_are_shared" "ties_are_shared" yN f l):∃fn,aS P w K mg base aT 1 f l ["rings"] (ay K fn)/\F1 fn:=by
 $$$(bQ F BV ρ ?D ?B)
 case D=>let fz:lC "rings":=⟨trivial⟩;$("h")
 ext web h t;$$$(bT ρ ?w);$$$(ao<|e8 (λ_ Z=>∃e a,Fr e/\Fr a/\Z=[.D (bH web),e,a]) ρ ⟨_,_,ι ρ,ι ρ,ρ⟩ ?st ?C)
 case C=>ext _ ⟨e,a,m,b,rfl⟩;$(au<|ao<|bY ρ ⟨_,ρ⟩)
 ext k x hx _ ⟨e,a,m,b,rfl⟩;unfold dH at hx;rw[fm,ee]at hx;let(p,ep,rfl):=gs.1 hx;let g:=eK ep;$({[.D (bH web),.D<|.str p.1,a],by let rfl||(d,rfl):=m<;>rfl,?_});$(ao<|e8 (λ_ Z=>∃a,Fr a/\Z=[.D (bH web),.D<|.str p.1,a]) (bX<|nJ ρ ρ<|mG h.nd g) ⟨_,b,ρ⟩ ?_ ?_)
 .ext j y o _ ⟨a,b,rfl⟩;rw[ee]at o;let(n,u,rfl):=gs.1 o;let v:=eK u;$({[.D (bH web),.D<|.str p.1,.D<|.str n],by let rfl||(d,rfl):=b<;>rfl,?_});ext(hi:n∈web.map (·.1))
  .let(q,i,rfl):=a5.1 hi;let c:=uw web q.1 false;rw[decide_eq_true hi]at c;let r:=n9 (λx hx=>h.txt ((h.rg q i).2.2 x hx).1) (h.txt<|ι<|a5.2 ⟨p,g,ρ⟩) true;rw[decide_eq_true (t p g q i v)]at r;$(eY (v_and (bB<|aq ρ ρ c)<|Aj ρ<|bB<|aq ρ (nJ ρ ρ<|mG h.nd i) r) ρ<|bp ⟨_,τ ⟨_,ρ⟩,ρ⟩)
  let c:=uw web n false;rw[decide_eq_false hi]at c;$(eY (v_and (bB<|aq ρ ρ c)<|qz ρ ρ) ρ<|bp ⟨_,τ ⟨_,ρ⟩,ρ⟩)
 ext _ ⟨a,b,rfl⟩;$(au<|bp ⟨_,_,τ ⟨_,ρ⟩,b,ρ⟩)
def dG(l:List (List ew))(k:List ew):List (List ew):=if k∈l then l else l++[k]
def dA(a:List (List ew)):List (List ew):=a.foldl dG []
def bR(l:List (List ew)):gf:=l.map (·,.bl true)
def Qo(l)(k):rF (bR l) k (.bl true)=bR (dG l k):=by
 let e:(fM (bR l) k).isSome=am (k∈l):=by dsimp[fM,bR];rw[qh];simp
 delta rF dG;rw[e];ext(h:k∈l)
 .rw[if_pos (by$$$$h),if_pos h];delta bR;rw[fm];$(sH λx _=>?_);show(if x=k then(x,Dat.bl true)else(x,Dat.bl true))=_;split<;>rfl
 rw[if_neg (by$$$$h),if_neg h];delta bR;simp?[ft];rfl
def EC(l)(k):dA (l++[k])=dG (dA l) k:=by delta dA;rw[aew];rfl
theorem D4(l):(dA l).length<=l.length:=by
 let:∀(l a:List (List ew)),(l.foldl dG a).length<=a.length+l.length:=by
  ext l;induction l with
  |nil=>ext a;$(eS _)
  |cons k l b =>
   ext a;let h:=b<|dG a k;let:(dG a k).length<=a.length+1:=by$$(dG);split<;>simp
   simp;show(l.foldl dG<|dG a k).length<=_;lia
 let:=this l [];simp at this;$this
theorem M'(l):(∀k,k∈dA l↔k∈l)/\(dA l).Nodup:=by
 let:∀(l b:List (List ew)),b.Nodup->(∀k,k∈l.foldl dG b↔k∈b\/k∈l)/\(l.foldl dG b).Nodup:=by
  ext l;induction l with
  |nil=>ext b h;$({λk=>by simp,h})
  |cons a l g =>
   ext b h;let i:(dG b a).Nodup:=by
    delta dG;split
    .$h
    ext1 f;rw[hM];$({h,⋯,λx hx y j e=>f (by rw[ka.1 j]at e;rw[<-e];$hx)})
   let(c,d):=g _ i;$({λk=>?_,d});show k∈l.foldl dG (dG b a)↔_;rw[c k];delta dG;split
   .ext1 f;grind
   grind
 let(c,d):=this l [] D0;$({λk=>by rw[show dA l=l.foldl dG []from ρ,c k];simp,d})
theorem RV:∀{l:List (List ew)},l.Nodup->dA l=l:=by
 let:∀(l b:List (List ew)),(b++l).Nodup->l.foldl dG b=b++l:=by
  ext l;induction l with
  |nil=>ext b h;simp
  |cons a l c=>ext b h;let d:a∉b:=λz=>(hM.1 h).2.2 a z a eR ρ;show l.foldl dG (dG b a)=_;rw[show dG b a=b++[a]from if_neg d,c _ (by rw[nE];$h),nE];rfl
 ext l h;$(this l [] h)
def Gi (h:f Z=ac (.bl true,Z))(c:a Z=ac (k,Z))(b:(Z[i]?).bind ownOf=ac (false,.bA fz<|bR l))(h3:l.length<1000):sY i a f Z=ac (.next<|Z.set i<|.O<|.bA false<|bR<|dG l k):=by delta sY;simp[h];simp[b];rw[c];show((Z[i]?).bind ownOf).bind _=_;rw[b];show(if(bR l).length<a9 then _ else al)=_;rw[if_pos (by unfold bR a9;rw[a8];lia),Qo];rfl
def cf(web:bb):List (List ew):=web.flatMap λp=>(fO p.2).map λq=>[p.1,q.1,q.2]
def tX(fn:aJ):Prop:=∀web:bb,bJ web->bZ web->fn [bH web]=ac (.O<|.bA false<|bR<|cf web)
theorem AB (h:∀p∈web,p.2.length<=12):(cf web).length<=12*web.length:=by
 delta cf;induction web with
 |nil=>simp
 |cons p web a=>let h1:=a λq b=>h q<|eH _ b;let h2:=h p eR;simp?[aex,fk,a8,Ei,fq];lia
def sN (nd:(web.map (·.1)).Nodup):cf web=(corners (web.map (·.1))<|dg web).map λc=>[c.1,c.2.1,c.2.2]:=by delta cf corners;rw[List.map_flatMap,List.flatMap_map];$(congrArg _ (sH λp a=>?_));simp?[eN nd a,fm];rfl
def PH (h:bJ web)(hw:bZ web):(cf web).Nodup:=by rw[sN h.nd];$(hF.2<|List.Pairwise.imp (λ{a b} n e=>n ?_)<|kU hw.C);let(a1,a2,a3):=a;let(b1,b2,b3):=b;simp at e;simp?[e.1,e.2.1,e.2.2]
def Vh (h:Z[i]?=ac (.D<|.L<|ns.map .str))(hz:ns.length<=100):wI (dm (cS i)<|dm (gp<|cK mJ (gp<|iD (cS i) (jN<|fC<|.int 1) oF)<|gp<|iD (cS i) oF<|jN<|fC<|.int 1) gm) Z=ac ((fO ns).map λq=>.U [.str q.1,.str q.2],Z):=by
 let a:cS i Z=ac (.L<|ns.map .str,Z):=by$$(cS);rw[h]
 let b:=zf ns 1;let c:=uh ns 1;delta wI;rw[ae a (ae (ah (aq (ah (gQ a ρ b) ρ) (ah (jt a ρ c) ρ)<|eU (by$$(a9);simp;$_)) ρ) ak)];show ac (oG (ns.map .str)<|(ns.drop 1).map .str++(ns.take 1).map .str,Z)=_;delta oG fO;rw[<-ft,List.zip_map,fm];rfl
theorem Pc(T:Txt mg)(r:mg "zip"=al){f:cA}{t:gi}(F:ba K "corners_of" "corners_of" AU f t):∃fn,aS P w K mg base aT 1 f t ["rings"] (ay K fn)/\tX fn:=by
 $$$(bQ F BC (n:=1) ρ ?J ?B)
 case J=>let nd:=BC.nd;let fz:lC "rings":=⟨trivial⟩;let tp:m8 "corners":=⟨trivial⟩;$("h")
 clear T F r;ext web h hw;let u:∀p∈web,p.2.length<=12:=λp m=>h.len m;let aY:=h.aY;$$$(bT ρ ?w);show WS _ [.D (bH web),.no,.no,.no,.no,.no] _;$$$(ao<|bc (Z2:=[.D (bH web),.O<|.bA false<|bR<|dA [],.no,.no,.no,.no]) ρ ρ<|au ?_);$$$(ao<|e8 (λk Z=>∃o l c e,Fr o/\Fr l/\Fr c/\Fr e/\Z=[.D (bH web),.O<|.bA false<|bR<|dA<|cf<|web.take k,o,l,c,e]) ρ ⟨_,_,_,_,ι ρ,ι ρ,ι ρ,ι ρ,ρ⟩ ?st ?C)
 case C=>ext _ ⟨o,l,c,e,v,z,g,i,rfl⟩;simp?[a8,show(dH web).length=web.length from a8 ..,ri,RV<|PH h hw];$(au<|ao<|bY ρ ⟨_,ρ⟩)
 ext k x hx _ ⟨o,l,c,e,v,z,g,i,rfl⟩;unfold dH at hx;rw[fm,ee]at hx;let(p,ep,rfl):=gs.1 hx;let m:=eK ep;let hlp:=u p m;let hk:=(bg.1 ep).1;let r:=AB (web:=web.take k) λq M=>u q<|adQ M;rw[f']at r;$({[.D (bH web),.O<|.bA false<|bR<|dA<|cf<|web.take k,.D<|.str p.1,l,c,e],by let rfl||(d,rfl):=v<;>rfl,?_});$$$(ao<|bc (Z2:=[.D (bH web),.O<|.bA false<|bR<|dA<|cf<|web.take k,.D<|.str p.1,.D<|.L<|p.2.map .str,c,e]) (v_res<|nJ ρ ρ<|mG h.nd m) ?a<|au ?b)
 case a=>let rfl||(d,rfl):=z<;>rfl
 $(ao<|e8 (λj Z=>∃c e,Fr c/\Fr e/\Z=[.D (bH web),.O<|.bA false<|bR<|dA (cf (web.take k)++((fO p.2).take j).map λq=>[p.1,q.1,q.2]),.D<|.str p.1,.D<|.L<|p.2.map .str,c,e]) (Vh ρ (by lia)) ⟨_,_,g,i,by simp?[ae0,aax,z6]⟩ ?_ ?_)
 .ext j y D _ ⟨c,e,g,i,rfl⟩;rw[ee]at D;let(q,eq,rfl):=gs.1 D;generalize G:dA (cf (web.take k)++((fO p.2).take j).map λq=>[p.1,q.1,q.2])=L;let I:L.length<1000:=by rw[<-G];$(aa' (D4 _) ?_);simp?[fk,a8,f',Ei];lia
  $({[.D (bH web),.O<|.bA false<|bR L,.D<|.str p.1,.D<|.L<|p.2.map .str,.D<|.str q.1,.D<|.str q.2],by let rfl||(d,rfl):=g<;>let rfl||(d,rfl):=i<;>rfl,?_});$(ao {_,Gi (k:=[p.1,q.1,q.2]) ρ ρ ρ I,au<|bp ⟨.D<|.str q.1,.D<|.str q.2,τ ⟨_,ρ⟩,τ ⟨_,ρ⟩,?_⟩});rw[iu eq,ft,<-nE];show _=[_,Slot.O<|.bA false<|bR<|dA<|_++[_],_,_,_,_];rw[EC,G];rfl
 ext _ ⟨c,e,g,i,rfl⟩;$(au<|bp ⟨.D<|.str p.1,.D<|.L<|p.2.map .str,c,e,τ ⟨_,ρ⟩,τ ⟨_,ρ⟩,g,i,?_⟩);rw[iu ep,show cf (web.take k++[p])=cf (web.take k)++(fO p.2).map λq=>[p.1,q.1,q.2]from by$$(cf);simp,a8,ri]
def Sa(l)(k):(fM (bR l) k).isSome=am (k∈l):=by delta fM bR;rw[qh];simp
def yJ (h:a Z=ac (k,Z))(b:(Z[i]?).bind jK=ac (.bA fz<|bR l)):nU neg i a Z=ac (.D<|.bl (if neg then !am (k∈l)else am (k∈l)),Z):=by delta nU;rw[h];show((Z[i]?).bind jK).bind _=_;rw[b,<-Sa];rfl
def pU(n):dM n=bd↔n∈cB:=by simp[dM,cB,bf,or_assoc]
def B8 (h:k<4):bf k∈cB:=by
 let:k=0\/k=1\/k=2\/k=3:=by lia
 let rfl||rfl||rfl||rfl:=this<;>simp[cB]
def wQ (h:n∈cB):∃k,k<4/\n=bf k:=by
 simp[cB]at h;let rfl||rfl||rfl||rfl:=h
 .$({0,⋯,rfl})
 .$({1,⋯,rfl})
 .$({2,⋯,rfl})
 $({3,⋯,rfl})
def G1(fn:aJ):Prop:=∀(cs:List (List ew)) (x n m:ew),bC x->bC n->bC m->(∀k,k<4->n=bf k->m∈cB->m=bf ((k+1)%4))->(n∉cB->[n,m,x]∈cs)->(m∉cB->[m,x,n]∈cs)->fn [.U [.str x,.str n,.str m],.bA true<|bR cs]=ac (.D<|.bl true)
def J5(T:Txt mg)(w1:eB K mg "WALLS" pH)(p:aN P w K mg base "follower" 1 (ay K c))(q:yT c)(F:ba K "corner_closes" "corner_closes" Bd f g):∃fn,aS P w K mg base aT 2 f g ["corner","corners"] (ay K fn)/\G1 fn:=by
 refine' bQ F DK ρ ?C ?B
 case C=>$("h")
 ext cs x n m tx i d r t u;$$$(bT ρ ?w);$$$(ao<|bc ρ ρ<|au<|ao<|bc ρ ρ<|au<|ao<|bc ρ ρ<|au ?_);$(ao (eA (js (bB<|aq ρ ρ<|oj i.ok false)<|bB<|aq ρ ρ<|oj d.ok false) (λh=>?_) λh=>bp<|au ?_))
 .simp[pU]at h;let(k,j,rfl):=wQ h.1;let e:=q k j;$(ao (bY (aq ρ (ah (aE (ae ρ ak) e) ρ)<|qv d.ok (xA _<|B8<|aca _ ⋯).ok)<|fh ?_));$(decide_eq_true<|r k j ρ h.2)
 refine' eY (js (bB<|aq ρ ρ<|oj i.ok true)<|bB<|yJ ρ ρ) ?a ?b
 case a =>
  ext(l:n∈cB)
  .rw[(pU n).2 l];rfl
  rw[decide_eq_true (t l)];simp
 refine ao<|bY (v_res<|Dl (ah (aq ρ ρ<|oj d.ok false) ρ)<|ah (yJ ρ ρ) ρ)<|fh ?_;ext(o:m∈cB)
 .rw[(pU m).2 o];rfl
 rw[decide_eq_true (u o)];simp
def Hy(fn:aJ):Prop:=∀web:bb,bJ web->bZ web->fn [bH web]=ac (.D<|.bl true)
def rP (h:bJ web):[x,n,m]∈cf web↔x∈web.map (·.1)/\aO (dg web x) n m:=by
 rw[sN h.nd,<-fy,a5];constructor
 .ext⟨⟨a,b,c⟩,d,e⟩;simp at e;simp?[<-e.1,<-e.2.1,<-e.2.2];$d
 $(λd=>{_,d,ρ})
theorem RM(T:Txt mg){q r:aJ}(v:aN P w K mg base "corners_of" 1 (ay K q))(D:tX q)(G:aN P w K mg base "corner_closes" 2 (ay K r))(I:G1 r){f:cA}{u:gi}(F:ba K "corners_close" "corners_close" A5 f u):∃fn,aS P w K mg base aT 3 f u ["rings"] (ay K fn)/\Hy fn:=by
 $$$(bQ F CC ρ ?J ?B)
 case J=>let nd:=CC.nd;let tp:m8 "corners":=⟨trivial⟩;$("h")
 ext web h hw;let L:=D web h hw;let hl:=AB λp M=>h.len M;let aY:=h.aY;$$$(bT ρ ?w);$$$(ao<|bc (aE (ae ρ ak) L) ρ<|au ?_);$$$(ao<|bY (qm (xs:=cf web) (λk=>[.no,.D<|.U<|k.map .str,.D<|.bA true<|bR<|cf web]) (Z1:=[.D (bH web),.D<|.bA true<|bR<|cf web]) ?a ρ ?b ?c ?d ?e) ⟨_,ρ⟩)
 case a=>show ac (jX<|bR<|cf web,_)=_;dsimp[jX,bR];rw[fm];rfl
 case b=>$$(a9);lia
 case c=>ext y l Z hd;let rfl||(z,rfl):=hd<;>rfl
 case e=>ext y l;rfl
 ext y l;let t:=l;rw[sN h.nd]at t;let((x,n,m),_,rfl):=a5.1 t;let(hx,g):=(rP h).1 l;let tx:∀z∈dg web x,bC z:=λz N=>h.txt<|hw.C.mem x hx z N
 let:=I (cf web) x n m (h.txt<|ι hx) (tx n g.mem.1) (tx m g.mem.2) (λk O Q i=>by
  let(j,R,rfl):=wQ i;rw[hw.ww x hx k j O R (by rw[<-Q];$g)]) (λo=>by
  let o:=(hw.C.mem x hx n g.mem.1).resolve_right o;$((rP h).2 {o,hw.C.gx x hx n m g o})) (λi=>by
  let i:=(hw.C.mem x hx m g.mem.2).resolve_right i;$((rP h).2 {i,hw.C.gb x hx n m g i}))
 $(ah (aE (ae ρ<|ae ρ ak) this) ρ)
def Ka (nd:ns.Nodup)(s:aO ns p wl):∃j,ns.findIdx? (λx=>am<|x=wl)=ac j/\dJ (.L<|ns.map .str) (.int<|(j:Int)-1)=ac (.str p):=by
 let(i,a,b):=s;let hi:=(bg.1 a).1;let(c,d):=bg.1 b;$({(i+1)%ns.length,nk.2 {c,by$$$$d,λk hk=>?_},?_})
 .ext z;let:=kd nd (i:=k) (bg.2 {by lia,by$$$$z}) b;lia
 simp?[oK];delta eE;let:iT (ns.map Dat.str).length (((i+1)%ns.length:Nat)-1:Int)=ac i:=by
  rw[a8];delta iT;ext(e:i+1<ns.length)
  .rw[lr e,if_pos (by lia),if_pos (by lia)]
   congr 1
   lia
  let:i+1=ns.length:=by lia
  rw[this,z7,if_neg ∅,if_pos ∅]
  congr 1;$_
 simp?[this,gD,ee,a];rfl
def QZ (h:c Z=ac (false,Z1))(q:Q (.next Z1)):WS (gX c fb<|n+1) Z Q:=by$({_,?_,q});show(c Z).bind _=_;rw[h];rfl
def NM (h:c Z=ac (true,Z1))(a:fb Z1=ac (.next Z2))(q:WS (gX c fb n) Z2 Q):WS (gX c fb<|n+1) Z Q:=by let(o,e,q):=q;$({o,?_,q});show(c Z).bind _=_;rw[h];show(fb Z1).bind _=_;rw[a];$e
theorem Vg (D:List ew->ew->Slot->DS)(stop:∀d a t,a∉rooms->c (D d a t)=ac (false,D d a t))(go:∀d a p t,Fr t->a∈rooms->aO (ring a) p wl->d.length<500->c (D d a t)=ac (true,D d a t)/\∃t',Fr t'/\fb (D d a t)=ac (.next<|D (d++[a]) p t'))(r:Row rooms ring wl a l) :
  ∀(d:List ew) (t:Slot) (n:Nat),Fr t->l.length<n->d.length+l.length<500->(∀e t',Q<|.next<|D (d++l) e t')->WS (gX c fb n) (D d a t) Q:=by
 induction r with
 | @stop b h=>ext d t n g f _ q;obtain⟨n,rfl⟩:∃m,n=m+1:={n-1,by simp at f;$_};$(QZ (stop d _ t h) ?_);let:=q b t;rw[z6]at this;$this
 | @go a p l h s _ j=>ext d t n g f k q;simp at f k;obtain⟨n,rfl⟩:∃m,n=m+1:={n-1,∅};let(o,t',u,v):=go d a p t g h s ∅;$(NM o v (j _ _ _ u (by lia) (by simp?[fk,abG];$_) λe i=>?_));rw[nE];$(q e i)
def FT(fn:aJ):Prop:=∀(web:bb) (wl a:ew) (l:List ew),bJ web->bC wl->Row (web.map (·.1)) (dg web) wl a l->l.length<100->fn [bH web,.str wl,.str a]=ac (.O<|.L<|l.map .str)
def UB(T:Txt mg)(F:ba K "row_along" "row_along" Au f g):∃fn,aS P w K mg base aT 1 f g ["rings","wall","first"] (ay K fn)/\FT fn:=by
 $$$(bQ F C2 ρ ?B ?C)
 case B=>let fz:lC "rings":=⟨trivial⟩;$("h")
 ext web wl a l h i r hl;$$$(bT ρ ?w);$$$(ao<|bc (dW ak<|rp _) ρ<|au<|ao<|bc ρ ρ<|au ?_);$$$(ao<|Vg (λc b t=>[.D (bH web),.D<|.str wl,.D<|.str a,.O<|.L<|c.map .str,.D<|.str b,t]) ?stop ?go r [] .no vm (ι ρ) ?n ?m ?q)
 case n=>$$(vm);$_
 case m=>simp?[T'];$_
 case q=>$(λa' t'=>au<|ao<|bY ρ ⟨_,ρ⟩)
 case stop=>ext c b t B;let e:=uw web b false;rw[decide_eq_false B]at e;$(bB<|aq ρ ρ e)
 ext c b p t o B k ha;let e:=uw web b false;rw[decide_eq_true B]at e;let(x,hx,rfl):=a5.1 B;rw[eN h.nd hx]at k;let tr:∀z∈x.2,bC z:=λz u=>h.txt ((h.rg x hx).2.2 z u).1;let(j,v,y):=Ka (h.rg x hx).2.1 k;$({bB<|aq ρ ρ e,.D<|.L<|x.2.map .str,τ ⟨_,ρ⟩,?_});$(dS (nc<|sg ρ ρ (by$$(a9);rw[a8];$_))<|dR<|dS (ij (Z2:=[.D (bH web),.D<|.str wl,.D<|.str a,.O<|.L<|(c++[x.1]).map .str,.D<|.str x.1,.D<|.L<|x.2.map .str]) (v_res<|nJ ρ ρ<|mG h.nd hx) ?_)<|dR<|dS (ij (v_res<|dD ρ (ah (aq (sU ρ (ae ρ ak) (oO tr) (gv i.ok)<|(sM tr i).trans v) ρ<|kD ρ) ρ) ρ y) ρ)<|dR ρ);rw[ft];let rfl||(d,rfl):=o<;>rfl
def BA{web:bb}(nd:(web.map (·.1)).Nodup)(keep:ew×List ew->Bool):((web.filter keep).map (·.1)).Nodup:=k9 (List.Sublist.map _ n5) nd
def yp (p:l.Perm a):cp l=cp a:=vX ((gj _ _).trans p)<|DM l
theorem Ew (h:l.length<64):mn [.L (l.map .str)]=ac (.O<|.L<|(cp l).map .str):=by
 show(match d7 (l.map .str)with
  |some a=>if a.length<64 then ac (Res.O<|.L<|(cp a).map .str)else al
  |none=>iA [.L (l.map .str)])=_
 let:=nD (λx:ew=>x) l;rw[y0]at this;rw[this];$(if_pos h)
theorem Ea:∀l:List ew,lL (l.map Dat.str) (l.map Dat.str)=bd
 |[]=>rfl
 |x::l=>by show(dU (.str x) (.str x)&&lL (l.map Dat.str) (l.map Dat.str))=bd;rw[Ea l,kh];simp
def Dr(fn:aJ):Prop:=∀(web:bb) (k:Nat),k<4->bJ web->bZ web->fn [bH web,.str<|bf k]=ac (.D<|.bl true)
def Rl(T:Txt mg)(G:aN P w K mg base "corners_of" 1 (ay K d))(I:tX d)(J:aN P w K mg base "follower" 1 (ay K e))(L:yT e)(M:aN P w K mg base "row_along" 1 (ay K g))(N:FT g)(F:ba K "wall_has_row" "wall_has_row" AJ f q):∃fn,aS P w K mg base aT 2 f q ["rings","wall"] (ay K fn)/\Dr fn:=by
 $$$(bQ F Hj ρ ?B ?C)
 case B=>let nd:=Hj.nd;let fz:lC "rings":=⟨trivial⟩;$("h")
 ext web k i h hw;let(x,hx,r,l,O,t,j):=hw.row k i;let aY:=h.aY;let sz:web.length<=sizeLine:=by$$(a9);lia
 let u:=xA _<|B8 i;let Q:=L k i;let hll:l.length<=8:=m3 (Bm t λy m=>((j y).1 m).1) (by rw[a8];lia);let v:(dH web).map (λk=>Dat.str k.1)=web.map λp=>Dat.str p.1:=by$$(dH);rw[fm];rfl
 let R:(web.filter λp=>am<|[p.1,bf k,bf<|(k+1)%4]∈cf web).map (·.1)=[x]:=by
  $(List.perm_singleton.1 ((mm (BA h.nd _) ⋯).2 λa=>?_));rw[a5,ka];constructor
  .ext⟨p,b,rfl⟩;rw[gg,decide_eq_true_eq,rP h]at b;$((r p.1 b.2.1).1 b.2.2)
  ext rfl;let(p,b,rfl):=a5.1 hx;$({p,gg.2 {b,decide_eq_true<|(rP h).2 ⟨hx,(r _ hx).2 ρ⟩},ρ})
 let c:l.Perm ((web.filter λp=>am<|bf k∈p.2).map (·.1)):=by
  $((mm t<|BA h.nd _).2 λa=>?_);rw[j];constructor
  .ext⟨S,B⟩;rw[a5];let(p,b,rfl):=a5.1 S;rw[eN h.nd b]at B;$({p,gg.2 {b,decide_eq_true B},ρ})
  ext B;let(p,b,rfl):=a5.1 B;rw[gg,decide_eq_true_eq]at b;$({a5.2 ⟨p,b.1,ρ⟩,by rw[eN h.nd b.1];$(b.2)})
 $$$(bT ρ ?w);show WS _ [.D (bH web),.D<|.str<|bf k,.no,.no,.no] _;$$$(ao<|bc (aE (ae ρ ak)<|I web h hw) ρ<|au ?_);show WS _ [.D (bH web),.D<|.str<|bf k,.O<|.bA false<|bR<|cf web,.no,.no] _;$$$(ao<|bc (Z2:=[.D (bH web),.D<|.str<|bf k,.D<|.bA false<|bR<|cf web,.O<|.L<|[x].map .str,.no]) (kA (enc:=λp:ew×List ew=>.str p.1) (xs:=web) (λp=>[.no,.D<|.str p.1,.D<|.bA false<|bR<|cf web,.D<|.str<|bf k]) (λp=>am<|[p.1,bf k,bf<|(k+1)%4]∈cf web) (λp=>.str p.1) ?U ρ sz ?V ?W ?X ?Y) ?a6<|au ?a7)
 case U=>show ac ((dH web).map λk=>Dat.str k.1,_)=_;rw[v]
 case V=>ext y m Z hd;let rfl||(z,rfl):=hd<;>rfl
 case W=>ext p b;$(bB<|yJ (k:=[p.1,bf k,bf<|(k+1)%4]) ?_ ρ);$$(ya);rw[ae ρ (ae ρ<|ae (ah (aE (ae ρ ak) Q) ρ) ak)];rfl
 case X=>ext p b _;rfl
 case Y=>ext p b;rfl
 case a6=>rw[<-R,fm];rfl
 $$$(eY (bB<|aq (eG ρ ρ) ρ<|ne_int _ _) ρ ?zz);let tr:∀p∈web,∀z∈p.2,bC z:=λp b z o=>h.txt ((h.rg p b).2.2 z o).1;generalize hT:(web.filter λp=>am<|bf k∈p.2).map (·.1)=td at c;let htl:=c.length_eq;$$$(ao<|bc (Z2:=[.D (bH web),.D<|.str<|bf k,.D<|.bA false<|bR<|cf web,.O<|.L<|[x].map .str,.O<|.L<|td.map .str]) (kA (enc:=λp:ew×List ew=>.str p.1) (xs:=web) (λp=>[.no,.D<|.str p.1,.D<|bH web,.D<|.str<|bf k]) (λp=>am<|bf k∈p.2) (λp=>.str p.1) ?b1 ρ sz ?b2 ?b3 ?b4 ?b5) ?b6<|au ?b7)
 case b1=>show ac ((dH web).map λk=>Dat.str k.1,_)=_;rw[v]
 case b2=>ext y m Z hd;let rfl||(z,rfl):=hd<;>rfl
 case b3=>ext p b;$(bB<|aq ρ (nJ ρ ρ<|mG h.nd b)<|n9 (tr p b) u false)
 case b4=>ext p b _;rfl
 case b5=>ext p b;rfl
 case b6=>rw[<-hT,fm];rfl
 let tl:∀z∈cp l,bC z:=λz o=>h.txt<|ι ((j z).1 ((gj _ _).mem_iff.1 o)).1;let D:=oO tl;$(ao<|bY (aq (ah (aE (ae (ah (aE (ae ρ<|ae ρ<|ae (dD ρ ρ ρ ρ) ak)<|N web (bf k) x l h u O ∅) ρ) ak)<|Ew ∅) ρ) (ah (aE (ae ρ ak)<|Ew ∅) ρ)<|v_eq D (by rw[<-yp c];$D))<|fh ?_);rw[<-yp c];show dU (.L _) (.L _)=bd;rw[uT,Ea]
def CH(fn:aJ):Prop:=∀ring names:List ew,(∀n∈ring,bC n)->(∀n∈names,bC n)->ring.length<=100->fn [.L (ring.map .str),.L<|names.map .str]=ac (.D<|.bl (ring.any λy=>am<|y∈names))
def Ng(T:Txt mg)(h:mg "any"=al)(F:ba K "has_one_of" "has_one_of" xH f e):∃fn,aS P w K mg base aT 1 f e ["ring","names"] (ay K fn)/\CH fn:=by
 $$$(bQ F FL ρ ?C ?B)
 case C=>let nd:=FL.nd;$("h")
 ext ring names i j hl;$$$(bT ρ ?w);$$$(ao<|bY (aE (ae (ah (dy (λn=>[.no,.D<|.str n,.D<|.L<|names.map .str]) (λn=>.bl<|am<|n∈names) (bX ρ) ρ ?a ?b ?c ?d) ρ) ak)<|Fm (λn=>am<|n∈names) ring) ⟨_,ρ⟩)
 case a=>$$(a9);lia
 case b=>ext y hy Z hd;let rfl||(z,rfl):=hd<;>rfl
 case c=>ext n g;$(ah (aq ρ ρ<|n9 j (i n g) false) ρ)
 ext n g;rfl
def Ot(n:Nat):(dY 0 (n:Int)).length=n:=by simp[dY]
abbrev lF(web:bb):Nat->List Str:=reach (web.map (·.1)) cB<|dg web
def ON (nd:(web.map (·.1)).Nodup)(k:Nat):lF web (k+1)=cB++(web.filter λp=>p.2.any λy=>am<|y∈lF web k).map (·.1):=by
 show cB++(web.map (·.1)).filter _=_;rw[aeT];congr 2;$(acj λp a=>?_)
 show(dg web p.1).any _=_;rw[eN nd a]
def Dv(fn:aJ):Prop:=∀web:bb,bJ web->bZ web->fn [bH web]=ac (.D<|.bl true)
theorem Va(T:Txt mg)(w1:eB K mg "WALLS" pH){g:aJ}(o:aN P w K mg base "has_one_of" 1 (ay K g))(q:CH g){f:cA}{j:gi}(F:ba K "all_reached" "all_reached" xC f j):∃fn,aS P w K mg base aT 2 f j ["rings"] (ay K fn)/\Dv fn:=by
 $$$(bQ F Hs ρ ?D ?B)
 case D=>let nd:=Hs.nd;let fz:lC "rings":=⟨trivial⟩;$("h")
 ext web h hw;let aY:=h.aY;let sz:web.length<=sizeLine:=by$$(a9);lia
 let l:(dH web).map (λk=>Dat.str k.1)=web.map λp=>Dat.str p.1:=by$$(dH);rw[fm];rfl
 let t:(dH web).length=web.length:=a8 ..;let tr:∀p∈web,∀z∈p.2,bC z:=λp a z i=>h.txt ((h.rg p a).2.2 z i).1
 let b:∀k,∀z∈lF web k,bC z:=λk z i=>h.txt ((λh=>by
   cases k with
   |zero=>$(τ h)
   |succ k =>
    let h||h:=el.1 h
    .$(τ h)
    $(ι (gg.1 h).1)) i)
 $$$(bT ρ ?w);$$$(ao<|bc ρ ρ<|au ?_);$$$(ao<|e8 (λk Z=>∃c,Fr c/\Z=[.D (bH web),.O<|.L<|(lF web k).map .str,c]) (mr (ae (eG ρ<|congrArg ac t) ak) ?r) ⟨_,ι ρ,ρ⟩ ?st ?C)
 case r=>lia
 case st =>
  ext k x hx _ ⟨c,m,rfl⟩;let b:=b k;rw[ON h.nd];generalize lF web k=R at *;let(_,rfl):=uc hx;$({[.D (bH web),.O<|.L<|R.map .str,.D<|.int k],by let rfl||(d,rfl):=m<;>rfl,?_});$$$(ao<|bc (aq (ah (aE (ae ρ ak) ρ) ρ) (ah (kA (λp=>[.no,.D<|.str p.1,.D<|.L<|R.map .str,.D<|bH web]) (λp=>p.2.any λy=>am<|y∈R) (λp=>.str p.1) ?G ρ sz ?I ?J ?L ?M) ρ)<|eU ?N) ?O<|au<|bp ⟨_,τ ⟨_,ρ⟩,ρ⟩)
  case G=>show ac ((dH web).map λk=>Dat.str k.1,_)=_;rw[l]
  case I=>ext y u Z hd;let rfl||(z,rfl):=hd<;>rfl
  case J=>ext p a;let:=h.len a;$(eC (ah (aE (ae (nJ ρ ρ<|mG h.nd a)<|ae ρ ak)<|q p.2 R (tr p a) b (by lia)) ρ) ρ)
  case L=>ext p a _;rfl
  case M=>ext p a;rfl
  case N=>let:=abH (λp:ew×List ew=>p.2.any λy=>am<|y∈R) web;rw[a8];show 4+_<=a9;delta a9;lia
  rw[ft,fm];rfl
 ext _ ⟨c,m,rfl⟩;rw[Ot];$$$(au<|ao<|bY (qm (λp=>[.no,.D<|.str p.1,.D<|.L<|(lF web web.length).map .str]) ?Q ρ sz ?S ?U ?V) ⟨_,ρ⟩)
 case Q=>show ac ((dH web).map λk=>Dat.str k.1,_)=_;rw[l]
 case S=>ext y u Z hd;let rfl||(z,rfl):=hd<;>rfl
 case V=>ext p a;rfl
 ext p a;let:p.1∈lF web web.length:=by let:=hw.all p.1<|a5.2 ⟨p,a,ρ⟩;rw[a8]at this;$this
 let e:=n9 (b web.length) (h.txt<|ι<|a5.2 ⟨p,a,ρ⟩) false;rw[decide_eq_true this]at e;$(ah (aq ρ ρ e) ρ)
def i7(x n:ew):Bool:=dM n||iY x n
def kK(web:bb):Nat:=aB (λp=>p.2.countP<|i7 p.1) web
def U4(a b):rC (.str a) (.str b)=ac (.D<|.bl<|iY a b):=by show ac (Res.D<|.bl<|am<|a.cps.toList<b.cps.toList)=_;delta iY cj;simp
def De(fn:aJ):Prop:=∀web:bb,bJ web->∃r,fn [bH web]=ac r/\∃ds,r=.O (.L ds)/\ds.length=kK web
theorem IS(T:Txt mg)(w1:eB K mg "WALLS" pH)(F:ba K "ties_of" "ties_of" xq f o):∃fn,aS P w K mg base aT 1 f o ["rings"] (ay K fn)/\De fn:=by
 $$$(bQ F FW ρ ?C ?B)
 case C=>let fz:lC "rings":=⟨trivial⟩;$("h")
 ext web h;let aY:=h.aY;let tr:∀p∈web,∀z∈p.2,bC z:=λp e z t=>h.txt ((h.rg p e).2.2 z t).1;let u:∀k,k<=web.length->kK (web.take k)<=12*k:=by
  ext k;induction k with
  |zero=>ext _;$(eS _)
  |succ k v=>ext G;obtain⟨p,ep⟩:∃p,web[k]?=ac p:={web[k],b8 (by lia)};let h2:=h.len<|eK ep;let h3:=abI (p:=i7 p.1) (l:=p.2);unfold kK at *;simp?[iu ep,uY];show _+(p.2.countP (i7 p.1)+0)<=_;lia
 $$$(Fg ρ ?w);$$$(ao<|bc (dW ak<|rp _) ρ<|au ?_);$$$(ao<|e8 (λk Z=>∃ds i a,Fr i/\Fr a/\ds.length=kK (web.take k)/\Z=[.D (bH web),.O<|.L ds,i,a]) ρ ⟨[],_,_,ι ρ,ι ρ,ρ,ρ⟩ ?st ?D)
 case D=>ext _ ⟨ds,i,a,q,c,hd,rfl⟩;rw[a8,show(dH web).length=web.length from a8 ..,ri]at hd;$(au<|ao<|bY ρ ⟨_,_,ρ,ds,ρ,hd⟩)
 ext k x hx _ ⟨ds,i,a,q,c,hd,rfl⟩;unfold dH at hx;rw[fm,ee]at hx;let(p,ep,rfl):=gs.1 hx;let e:=eK ep;let G:=(bg.1 ep).1;let hlp:=h.len e;let C:=u k (by lia);$({[.D (bH web),.O<|.L ds,.D<|.str p.1,a],by let rfl||(d,rfl):=q<;>rfl,?_});$(ao<|e8 (λj Z=>∃b a,Fr a/\b.length=kK (web.take k)+(p.2.take j).countP (i7 p.1)/\Z=[.D (bH web),.O<|.L b,.D<|.str p.1,a]) (bX<|nJ ρ ρ<|mG h.nd e) ⟨ds,a,c,by rw[hd];simp,rfl⟩ ?_ ?_)
 .ext j y r _ ⟨b,a,c,g,rfl⟩;rw[ee]at r;let(n,m,rfl):=gs.1 r;let I:=eK m;let J:=abI (p:=i7 p.1) (l:=p.2.take j);simp at J;$({[.D (bH web),.O<|.L b,.D<|.str p.1,.D<|.str n],by let rfl||(d,rfl):=c<;>rfl,?_});$(ao (eA (tf (bB<|aq ρ ρ<|oj (tr p e n I).ok false)<|bB<|aq ρ ρ<|U4 _ _) (λz=>?_) λz=>bp<|au<|bp ⟨b,_,τ ⟨_,ρ⟩,?_,ρ⟩))
  .$(ao {_,nc<|sg ρ (ae (hU (ae ρ<|ae ρ ak) (by simp[a9])) ak) (by$$(a9);lia),au<|bp<|au<|bp ⟨b++[.U [.str p.1,.str n]],.D<|.str n,τ ⟨_,ρ⟩,?_,ρ⟩});rw[iu m,mo,fk,g,adK,if_pos (show i7 p.1 n=bd from z)];simp;lia
  rw[iu m,mo,adK,if_neg (by rw[show i7 p.1 n=bi from z];simp)];$g
 ext _ ⟨b,a,c,g,rfl⟩;rw[a8,ri]at g;$(au<|bp ⟨b,.D<|.str p.1,a,τ ⟨_,ρ⟩,c,?_,ρ⟩);simp?[g,iu ep];delta kK;simp[uY];rfl
def CN(fn:aJ):Prop:=∀web:bb,bJ web->bZ web->fn [bH web]=ac (.O<|.bA false<|bR<|dA<|(cf web).map cp)
def PM(T:Txt mg)(m:aN P w K mg base "corners_of" 1 (ay K e))(o:tX e)(F:ba K "threes_of" "threes_of" yM f g):∃fn,aS P w K mg base aT 2 f g ["rings"] (ay K fn)/\CN fn:=by
 $$$(bQ F Hd ρ ?D ?B)
 case D=>let tp:m8 "threes":=⟨trivial⟩;let tp2:m8 "corners_of":=⟨trivial⟩;$("h")
 ext web h hw;let aY:=h.aY;let hl:=AB λp q=>h.len q;$$$(bT ρ ?w);$$$(ao<|bc ρ ρ<|au ?_);$$$(ao<|e8 (λk Z=>∃b,Fr b/\Z=[.D (bH web),.O<|.bA false<|bR<|dA<|((cf web).take k).map cp,b]) ?a ⟨_,ι ρ,ρ⟩ ?st ?C)
 case a=>delta v7;rw[aE (ae ρ ak) (o web h hw)];show ac (jX<|bR<|cf web,_)=_;dsimp[jX,bR];rw[fm];rfl
 case C=>ext _ ⟨b,i,rfl⟩;rw[a8,ri];$(au<|ao<|bY ρ ⟨_,ρ⟩)
 ext k x hx _ ⟨b,i,rfl⟩;rw[ee]at hx;let(c,j,rfl):=gs.1 hx;rw[iu j,ft];show∃Z1,_/\WS _ Z1 (uA (λZ=>∃b,Fr b/\Z=[.D (bH web),.O<|.bA false<|bR<|dA<|((cf web).take k).map cp++[cp c],b]) _);rw[EC];let hc3:c.length=3:=by let:=eK j;rw[sN h.nd]at this;let(z,_,rfl):=a5.1 this;rfl
 generalize r:dA (((cf web).take k).map cp)=L;let l:L.length<1000:=by rw[<-r];$(aa' (D4 _) ?_);rw[a8,f'];lia
 $({[.D (bH web),.O<|.bA false<|bR L,.D<|.U<|c.map .str],by let rfl||(d,rfl):=i<;>rfl,?_});$(ao {_,Gi ρ ?_ ρ l,au<|bp ⟨.D<|.U<|c.map .str,τ ⟨_,ρ⟩,ρ⟩});let t:mn [.U (c.map .str)]=ac (.O<|.L<|(cp c).map .str):=by show(d7<|c.map .str).bind _=_;let:=nD (λx:ew=>x) c;rw[y0]at this;rw[this];$(if_pos (by lia))
 delta zU;rw[ae (ah (aE (ae ρ ak) t) ρ) ak];show(d7<|(cp c).map .str).map _=_;let:=nD (λx:ew=>x)<|cp c;rw[y0]at this;rw[this];rfl
def UX (a:ds.length=m)(h:WS s (gy n ds) λo=>∃Z,o=.next Z):iS m (ic n s) ds=ac (.D .aP):=by let(o,e,Z,rfl):=h;delta iS;rw[if_pos a];$((λh=>by$$(ic);rw[h];rfl) e)
theorem xw (g:b->c)(f:c->Nat):∀l:List b,aB f (l.map g)=aB (λa=>f<|g a) l
 |[]=>rfl
 |a::l=>by show f (g a)+aB f (l.map g)=f (g a)+_;rw[xw g f l]
def Ox:cp l=cp a↔l.Perm a:=by
 constructor
 .ext e;let b:=gj l cj;let c:=gj a cj;rw[show l.mergeSort cj=a.mergeSort cj from e]at b;$(b.symm.trans c)
 $yp
theorem KD (h:bJ web)(hw:bZ web):(dA<|(cf web).map cp).length+web.length=kK web+1:=by
 let(f,g):=M'<|(cf web).map cp;let j:=hw.C.threes yx (λc _ c' _=>Ox) g (λk=>by rw[f,sN h.nd,fm,a5];rfl)
 let m:=hw.zD;simp?[<-j,a8,xw]at m;let e3:aB (λp:ew×List ew=>(dg web p.1).countP λy=>!ai (web.map (·.1)) y) web+aB (λp:ew×List ew=>(dg web p.1).countP λy=>ai (web.map (·.1)) y&&iY p.1 y) web=kK web:=by
  rw[<-jg];$(cZ λp n=>?_);rw[eN h.nd n];let o:∀y∈p.2,(y∈web.map (·.1)\/y∈cB):=λy a=>((h.rg p n).2.2 y a).1;let hd:=λy a=>hw.C.cO y a;generalize p.2=l at *;induction l with
  |nil=>rfl
  |cons y l q =>
   let i:=q<|λz r=>o z<|eH _ r;simp?[ia];let a:=o y eR;ext(b:y∈web.map (·.1))
   .let d:ai (web.map (·.1)) y=bd:=decide_eq_true b;let e:dM y=bi:=by rw[<-aaI,pU];$(hd y b)
    rw[show i7 p.1 y=iY p.1 y from by$$(i7);rw[e];rfl,d,<-i];simp;lia
   let d:ai (web.map (·.1)) y=bi:=decide_eq_false b;let e:=(pU y).2 (a.resolve_left b);rw[show i7 p.1 y=bd from by$$(i7);rw[e];rfl,d,<-i];lia
 lia
theorem O2{web:bb}(nd:(web.map (·.1)).Nodup):tN [.L (web.map pairD)]=ac (.O<|.cg<|dH web):=by
 let:∀l:bb,mF (l.map pairD)=ac (dH l):=by
  ext l;induction l with
  |nil=>rfl
  |cons p l a=>show(mF<|l.map pairD).map _=_;rw[a];rfl
 show(mF<|web.map pairD).bind _=_;rw[this];apply if_pos;delta dH;rw[fm];$nd
def Gp(fn:aJ):Prop:=∀web:bb,bJ web->bZ web->fn [.L (web.map pairD)]=ac (.D .aP)
def wG (h:a Z=ac (ds,Z1))(e:fn ds=ac (.D<|.bl true)):oh (m9<|gp<|cE fn a) Z=ac (false,Z1):=gE<|eC (ah (aE h e) ρ) ρ
theorem QJ(T:Txt mg)(w1:eB K mg "WALLS" pH){c d e g i j l:aJ}(x:aN P w K mg base "has_form" 3 (ay K c))(D:G6 c)(G:aN P w K mg base "ties_are_shared" 1 (ay K d))(I:F1 d)(J:aN P w K mg base "corners_close" 3 (ay K e))(L:Hy e)
 (M:aN P w K mg base "wall_has_row" 2 (ay K g))(N:Dr g)(O:aN P w K mg base "all_reached" 2 (ay K i))(Q:Dv i)(R:aN P w K mg base "threes_of" 2 (ay K j))(S:CN j)(U:aN P w K mg base "ties_of" 1 (ay K l))(V:De l){f:cA}{m:gi}(F:ba K "must_web" "must_web" AV f m):∃fn,aS P w K mg base aT 4 f m ["web"] (ay K fn)/\Gp fn:=by
 $$$(bQ F Ci ρ ?W ?B)
 case W=>let nd:=Ci.nd;let hl:EY "rings":=⟨trivial⟩;$("h")
 ext web h hw;let X:(dH web).length=web.length:=a8 ..;let(_,Y,ds,rfl,hd):=V web h;$$$(UX ρ ?w);$(eY (wG (ae ρ ak)<|D web h) ρ ?_);$$$(ao<|bc (Z1:=[.D (.L<|web.map pairD),.no]) ?a ρ<|au ?b)
 case a=>delta tH;rw[aE (ae ρ ak) (O2 h.nd)];rfl
 $(eY (wG (ae ρ ak) (I web h λp o q t z=>?_)) ρ ?_)
 .let u:=hw.C.sym p.1 (a5.2 ⟨p,o,ρ⟩) q.1<|a5.2 ⟨q,t,ρ⟩;rw[eN h.nd o,eN h.nd t]at u;$(u z)
 $(eY (wG (ae ρ ak)<|L web h hw) ρ ?_);$$$(eY (gE<|eC (ah (qm (xs:=cB) (λn=>[.no,.D<|.str n,.D<|bH web]) (vY ρ) ρ ?c1 ?c2 ?c3 ?c4) ρ) ρ) ρ ?c5)
 case c1=>show 4<=a9;$$(a9);lia
 case c2=>ext y hy Z hd;let rfl||(z,rfl):=hd<;>rfl
 case c3=>ext n v;let(k,hk,rfl):=wQ v;$(ah (aE (ae ρ<|ae ρ ak)<|N web k hk h hw) ρ)
 case c4=>ext n v;rfl
 $(eY (wG (ae ρ ak)<|Q web h hw) ρ ?_);$$$(eY (bB<|aq (ah (aE (ae (ah (aE (ae ρ ak)<|S web h hw) ρ) ak) ρ) ρ) (ah (aq (ah (aq (ah (aE (ae (ah (aE (ae ρ ak) Y) ρ) ak) ρ) ρ) (eG ρ<|congrArg ac X)<|kD ρ) ρ) ρ ρ) ρ)<|ne_int _ _) ?d2<|bp ⟨_,ρ⟩);let:=KD h hw;let:(bR<|dA<|(cf web).map cp).length=(dA<|(cf web).map cp).length:=a8 ..;rw[decide_eq_true (by lia)];rfl
end
local macro_rules | `(tactic| walk_at "r14")=>`(tactic| (refine' FY ?n ?x ?a ?b ?c ?d ?e ?f ?g ?h;(case x=>rfl);(case n=>exact xD (by rfl));(case a=>rfl);(case b=>exact uC (by rfl));(case c=>rfl);(case d=>exact fun _=>rfl);(case e=>walk_at "I");(case f=>(intro _ _ _ _ _;walk_at "G"));(case g=>(intro _ _ _ _ _;walk_at "J"));(case h=>(intro _ _ _ _ _;walk_at "D"))))
local macro_rules | `(tactic| walk_at $s:str)=>Mq.go s "C@PD|UW C|Pd DC~1@LM C~0@Mr rarA|>r14~Z@Bb Dr"
section
variable{P:hE}{w:iR}{K:e6}{mg:ew->Option bt}{base:k7}
def x9(ns:List ew)(i:Nat)(q:ew):List Str:=ns.take (i+1)++q::ns.drop (i+1)
def jR(ns:List ew)(one q:ew):List Str:=x9 ns ((ns.findIdx? λx=>am<|x=one).getD 0) q
def CU(fn:aJ):Prop:=∀(ns:List ew) (one other q:ew),ns.Nodup->ns.length<=100->(∀n∈ns,bC n)->aO ns one other->fn [.L (ns.map .str),.str one,.str other,.str q]=ac (.O<|.L<|(jR ns one q).map .str)
theorem wX{ns:List ew}(nd:ns.Nodup){i:Nat}{a:ew}(h:ns[i]?=ac a):ns.findIdx? (λx=>am<|x=a)=ac i:=by let(hi,e):=bg.1 h;$(nk.2 {hi,by$$$$e,λk hk z=>?_});let:=kd nd (i:=k) (bg.2 {by lia,by$$$$z}) h;lia
theorem uX{ns:List ew}{k:Nat}{a:ew}(h:ns[k]?=ac a):dJ (.L<|ns.map .str) (.int (k:Int))=ac (.str a):=by rw[oK];$(nh (by rw[ee,h];rfl))
theorem Sy(T:Txt mg){f:cA}{c:gi}(F:ba K "_law_between" "_law_between" zL f c):∃fn,aS P w K mg base aT 1 f c ["_law_names_here","_law_one","_law_other","_law_name"] (ay K fn)/\CU fn:=by
 $$$(bQ F HQ (n:=4) ρ ?C ?B)
 case C=>let nd:=HQ.nd;$("h")
 clear T F;ext ns one other q nd hl a ⟨i,b,d⟩;let hi:=(bg.1 b).1;let e:=a one<|eK b;let g:=a other<|eK d;let h:=Cq g g;rw[decide_eq_true ρ]at h;$$$(bT ρ ?w);show WS _ [.D (.L<|ns.map .str),.D<|.str one,.D<|.str other,.D<|.str q,.no] _;$$$(ao<|bc (Z2:=[.D (.L<|ns.map .str),.D<|.str one,.D<|.str other,.D<|.str q,.D<|.int ((i+1:Nat):Int)]) (aq (sU ρ (ae ρ ak) (oO a) (gv e.ok)<|(sM a e).trans (wX nd b)) ρ ρ) ρ<|au ?_);$(eY (bB<|aq (dD ρ (ah (aq ρ (eG ρ ρ)<|kD ?_) ρ) ρ ?_) ρ h) ρ ?_)
 .rw[a8];$(decide_eq_true ∅)
 .rw[a8];$(uX d)
 let j:=uh ns<|i+1;let k:=zf ns<|i+1;$(ao<|bY (aq (ah (aq (ah (jt ρ ρ j) ρ) (ah (dW (ae ρ ak) (by simp[a9])) ρ)<|eU ?_) ρ) (ah (gQ ρ ρ k) ρ)<|eU ?_) ?_)
 .simp[a9];lia
 .simp[a9];$_
 dsimp[jR,x9];rw[wX nd b,ft,nE];$({_,ρ})
theorem rQ(p:Int×Int){m:Nat}(h:0<m)(h':m<=1000):∃(k:Nat) (c:Int×Int),k<m/\gn (pD p) [.int (m:Int)]=ac (.D<|.int (k:Int),pD c):=by let(a,b):=fU p (m:=(m:Int)) ∅;$({(br p m).toNat,cQ p m,∅,?_});rw[fQ p m {∅,?_},ti a];$(aa' (Nat.log2_le_self _) ∅)
theorem MP{web:bb}{k:Nat}{p:ew×List ew}(h:web[k]?=ac p):dJ (.L<|web.map pairD) (.int (k:Int))=ac (pairD p):=by rw[oK];$(nh (by rw[ee,h];rfl))
def nR(x a b q:ew)(p:ew×List ew):ew×List Str:=(p.1,if p.1=x then jR p.2 a q else if p.1=a then jR p.2 b q else if p.1=b then jR p.2 x q else p.2)
def eL(web:bb)(x a b q:ew):bb:=(q,[x,a,b])::web.map (nR x a b q)
def Cv(fn:dB):Prop:=∀(p:Int×Int) (web:bb) (q:ew),bJ web->bZ web->web.length<8->bC q->∃r c,fn (pD p) [.L (web.map pairD),.str q]=ac (r,c)/\∃(x a b:ew) (d:Int×Int),x∈web.map (·.1)/\aO (dg web x) a b/\r=.O (.L<|(eL web x a b q).map pairD)/\c=pD d
theorem RJ(T:Txt mg)(p1:aN P w K mg base "_law_take" 1 (dr K 0 gn)){N:aJ}(q1:aN P w K mg base "_law_between" 1 (ay K N))(s1:CU N){f:cA}{Y:gi}(F:ba K "_law_put_in" "_law_put_in" zp f Y):∃fn,aS P w K mg base aT 2 f Y ["_law_web_here","_law_name","_law_purse_here"] (dr K 2 fn)/\Cv fn:=by
 $$$(pZ (j:=2) F FK (n:=2) ρ ?hb ?U)
 case hb=>let nd:=FK.nd;$("h")
 clear T F p1 q1;ext p web q h hw h8 tq;let aY:=h.aY;$$$(pf ρ ?w);show WS _ [.D (.L<|web.map pairD),.D<|.str q,.io<|pD p,.no,.no,.no,.no,.no,.no,.no,.no] _;let ln:du (.L<|web.map pairD)=ac web.length:=by simp[du]
 let(i,p2,hi,t1):=rQ p (m:=web.length) ∅ ∅;obtain⟨x,ex⟩:∃x,web[i]?=ac x:={_,b8 hi};let hx:=eK ex;let rx:=h.rg x hx;let lx:=h.len hx;$$$(ao<|Af (Z2:=[.D (.L<|web.map pairD),.D<|.str q,.io<|pD p2,.D<|.str x.1,.D<|.L<|x.2.map .str,.no,.no,.no,.no,.no,.no]) (dD ρ (ah (dz ρ (ae (eG ρ ln) ak) ρ t1 ρ) ρ) ρ<|MP ex) ρ<|au ?_);let O:du (.L<|x.2.map .str)=ac x.2.length:=by simp[du]
 let(j,c,hj,t2):=rQ p2 (m:=x.2.length) ∅ ∅;obtain⟨a,ea⟩:∃a,x.2[j]?=ac a:={_,b8 hj};obtain⟨b,eb⟩:∃b,x.2[(j+1)%x.2.length]?=ac b:={_,b8<|aca _ ∅};$$$(ao<|bc (Z2:=[.D (.L<|web.map pairD),.D<|.str q,.io<|pD c,.D<|.str x.1,.D<|.L<|x.2.map .str,.D<|.int (j:Int),.no,.no,.no,.no,.no]) (dz ρ (ae (eG ρ O) ak) ρ t2 ρ) ρ<|au ?_);$$$(ao<|bc (Z2:=[.D (.L<|web.map pairD),.D<|.str q,.io<|pD c,.D<|.str x.1,.D<|.L<|x.2.map .str,.D<|.int (j:Int),.D<|.str a,.no,.no,.no,.no]) (v_res<|dD ρ ρ ρ<|uX ea) ρ<|au ?_);$$$(ao<|bc (Z2:=[.D (.L<|web.map pairD),.D<|.str q,.io<|pD c,.D<|.str x.1,.D<|.L<|x.2.map .str,.D<|.int (j:Int),.D<|.str a,.D<|.str b,.no,.no,.no]) (v_res<|dD ρ (ah (aq (ah (aq (r:=.D<|.int ((j+1:Nat):Int)) ρ ρ ρ) ρ) (eG ρ O)<|kD<|decide_eq_true ∅) ρ) ρ<|uX eb) ρ<|au ?_);$$$(ao<|bc (Z2:=[.D (.L<|web.map pairD),.D<|.str q,.io<|pD c,.D<|.str x.1,.D<|.L<|x.2.map .str,.D<|.int (j:Int),.D<|.str a,.D<|.str b,.O<|.L [pairD (q,[x.1,a,b])],.no,.no]) (dW (ae (hU (ae ρ<|ae (ah (dW (ae ρ<|ae ρ<|ae ρ ak) (by simp[a9])) ρ) ak) (by simp[a9])) ak) (by simp[a9])) ρ<|au ?_);let V:aO x.2 a b:=⟨j,ea,eb⟩;let e:x.1∈web.map (·.1):=a5.2 ⟨x,hx,ρ⟩;let g:aO (dg web x.1) a b:=by rw[eN h.nd hx];$V
 let tx:=h.txt<|ι e;let ta:=h.txt (rx.2.2 a V.mem.1).1;let tb:=h.txt (rx.2.2 b V.mem.2).1;let ap:=hw.C.apart e g;$$$(ao<|e8 (λk Z=>∃G l,Fr G/\Fr l/\Z=[.D (.L<|web.map pairD),.D<|.str q,.io<|pD c,.D<|.str x.1,.D<|.L<|x.2.map .str,.D<|.int (j:Int),.D<|.str a,.D<|.str b,.O<|.L<|(eL (web.take k) x.1 a b q).map pairD,G,l]) (bX ρ) ⟨_,_,ι ρ,ι ρ,ρ⟩ ?st ?fin)
 case fin=>ext _ ⟨G,l,f9,R,rfl⟩;rw[a8,ri];$(au<|ao<|bY ρ<|fN ⟨_,_,_,ρ,ρ,x.1,a,b,c,e,g,ρ,ρ⟩)
 ext k y hy _ ⟨G,l,f9,R,rfl⟩;rw[ee]at hy;let(z,ez,rfl):=gs.1 hy;let I:=eK ez;let B:z.1∈web.map (·.1):=a5.2 ⟨z,I,ρ⟩;let W:=h.txt<|ι B;let rz:=h.rg z I;let lz:=h.len I;let Wb:∀n∈z.2,bC n:=λn hn=>h.txt (rz.2.2 n hn).1;let X:=λone other (s:aO (dg web z.1) one other)=>s1 z.2 one other q rz.2.1 (by lia) Wb (by rw[eN h.nd I]at s;$s);let J:=qv W.ok tx.ok;let L:=qv W.ok ta.ok;let M:=qv W.ok tb.ok;let eW:eL (web.take<|k+1) x.1 a b q=eL (web.take k) x.1 a b q++[nR x.1 a b q z]:=by$$(eL);rw[iu ez];simp
 let Wc:((eL (web.take k) x.1 a b q).map pairD).length<sizeLine:=by unfold eL a9;simp?[a8,fq,a8,f'];$_
 simp?[eW,ft];generalize (eL (web.take k) x.1 a b q).map pairD=S at *;$({[.D (.L<|web.map pairD),.D<|.str q,.io<|pD c,.D<|.str x.1,.D<|.L<|x.2.map .str,.D<|.int (j:Int),.D<|.str a,.D<|.str b,.O<|.L S,.D<|.str z.1,.D<|.L<|z.2.map .str],by let rfl||(d,rfl):=f9<;>let rfl||(d,rfl):=R<;>rfl,?_});$(ao<|WS.mono (Q:=λo=>∃t,(t=.O (.L<|(nR x.1 a b q z).2.map .str)\/t=.D (.L<|(nR x.1 a b q z).2.map .str))/\o=.next [.D (.L<|web.map pairD),.D<|.str q,.io<|pD c,.D<|.str x.1,.D<|.L<|x.2.map .str,.D<|.int (j:Int),.D<|.str a,.D<|.str b,.O<|.L S,.D<|.str z.1,t]) ?_ ?_)
 .dsimp[nR];ext(D:z.1=x.1)
  .rw[decide_eq_true D]at J;rw[if_pos D];$(eA (bB<|aq ρ ρ J) (λ_=>ao<|bc (aE (ae ρ<|ae ρ<|ae ρ<|ae ρ ak)<|X a b<|D ▸ g) ρ<|au<|bp ⟨_,ι ρ,ρ⟩)<|λz=>by$$$z)
  rw[decide_eq_false D]at J;rw[if_neg D];$(eA (bB<|aq ρ ρ J) (λz=>by$$$z) λ_=>ao ?_);ext(u:z.1=a)
  .rw[decide_eq_true u]at L;rw[if_pos u];let:=hw.C.gx x.1 e a b g<|u ▸ B;$(eA (bB<|aq ρ ρ L) (λ_=>ao<|bc (aE (ae ρ<|ae ρ<|ae ρ<|ae ρ ak)<|X b x.1<|u ▸ this) ρ<|au<|bp<|au<|bp ⟨_,ι ρ,ρ⟩)<|λz=>by$$$z)
  rw[decide_eq_false u]at L;rw[if_neg u];$(eA (bB<|aq ρ ρ L) (λz=>by$$$z) λ_=>ao ?_);ext(v:z.1=b)
  .rw[decide_eq_true v]at M;rw[if_pos v];let:=hw.C.gb x.1 e a b g<|v ▸ B;$(eA (bB<|aq ρ ρ M) (λ_=>ao<|bc (aE (ae ρ<|ae ρ<|ae ρ<|ae ρ ak)<|X x.1 a<|v ▸ this) ρ<|au<|bp<|au<|bp<|au<|bp ⟨_,ι ρ,ρ⟩)<|λz=>by$$$z)
  rw[decide_eq_false v]at M;rw[if_neg v];$(eA (bB<|aq ρ ρ M) (λz=>by$$$z) λ_=>bp<|au<|bp<|au<|bp ⟨_,τ ρ,ρ⟩)
 ext _ ⟨t,ht,rfl⟩;let rfl||rfl:=ht<;>$(au<|ao ⟨_,nc<|TK ρ (ae (hU (ae ρ<|ae ρ ak) (by simp[a9])) ak) ρ Wc,au<|bp ⟨.D<|.str z.1,.D<|.L<|(nR x.1 a b q z).2.map .str,τ ⟨_,ρ⟩,τ ⟨_,ρ⟩,ρ⟩⟩)
def yy (hw:bZ web)(aY:1<=web.length/\web.length<=8)(nm:∀p∈web,cy p.1=bd):bJ web:=by$({aY,nm,hw.C.ie,λp b=>?_});let a:p.1∈web.map (·.1):=a5.2 ⟨p,b,ρ⟩;let c:=hw.C.len p.1 a;let d:=hw.C.nd p.1 a;let f:=hw.C.mem p.1 a;let g:=hw.C.fB p.1 a;rw[eN hw.C.ie b]at c d f g;$({c,d,λn h=>{f n h,λz=>g<|z ▸ h}})
theorem Nx{ns:List ew}{one other q:ew}(nd:ns.Nodup)(b:3<=ns.length)(s:aO ns one other):rZ ns one other q (jR ns one q):=by let(i,a,c):=s;unfold jR x9;rw[wX nd a];$(NZ nd b a c)
theorem tS(web:bb)(x a b q:ew):(eL web x a b q).map (·.1)=q::web.map (·.1):=by$$(eL);rw[fR,fm];rfl
theorem bZ.put{web:bb}{x a b q:ew}(h:bJ web)(hw:bZ web)(hx:x∈web.map (·.1))(d:aO (dg web x) a b)(m:q∉web.map (·.1))(f:cy q=bd)(h8:web.length<8):bJ (eL web x a b q)/\bZ (eL web x a b q):=by
 let i:((eL web x a b q).map (·.1)).Nodup:=by rw[tS];$(iN.2 ⟨m,h.nd⟩)
 let at_:∀y∈web.map (·.1),dg (eL web x a b q) y=if y=x then jR (dg web y) a q else if y=a then jR (dg web y) b q else if y=b then jR (dg web y) x q else dg web y:=λy c=>by let(p,g,rfl):=a5.1 c;rw[eN h.nd g];$(eN i (p:=nR x a b q p)<|eH _<|a5.2 ⟨p,g,ρ⟩)
 let j:=λy (c:y∈web.map (·.1)) {u v:ew}(s:aO (dg web y) u v)=>Nx (q:=q) (hw.C.nd y c) (hw.C.len y c) s
 let ap:=hw.C.apart hx d;let pt:iI (web.map (·.1)) [bf 0,bf 1,bf 2,bf 3] (dg web) x a b q (dg<|eL web x a b q):={
  hx:=hx
  ab:=d
  qr:=m
  qw:=λz=>by let:=(pU q).2 z;unfold cy at f;rw[this]at f;simp at f
  rq:=eN i (p:=(q,[x,a,b])) eR
  rx:=by rw[at_ x hx,if_pos ρ];$(j x hx d)
  ra:=λk=>by rw[at_ a k,if_neg ap.1.symm,if_pos ρ];$(j a k<|hw.C.gx x hx a b d k)
  rb:=λl=>by rw[at_ b l,if_neg ap.2.1.symm,if_neg ap.2.2.symm,if_pos ρ];$(j b l<|hw.C.gb x hx a b d l)
  ro:=λy c o r t=>by rw[at_ y c,if_neg o,if_neg r,if_neg t]}
 let n:bZ (eL web x a b q):=by$$(bZ);rw[tS];$(j0.put hw pt yx)
 $({yy n ?_ λp g=>?_,n})
 .$$(eL);rw[fq,a8];$_
 let:p.1∈q::web.map (·.1):=by rw[<-tS web x a b q];$(a5.2 ⟨p,g,ρ⟩)
 let e||e:=dV.1 this
 .rw[e];$f
 let(z,A,e):=a5.1 e;rw[<-e];$(h.nm z A)
theorem NS{n:ew}(h:cy n=bd):aQ [(n,{0,0,1,1})]/\lh [(n,{0,0,1,1})]=bi:=by
 $({{⋯,⋯,λx hx=>?_,λx hx=>?_,⋯,⋯,rfl},?_})
 .rw[ka.1 hx];$h
 .rw[ka.1 hx];show(0:Int)<=0/\(0:Int)<1/\(0:Int)<=0/\(0:Int)<1;decide
 show am (∃p∈tj [{0,0,1,1}],3<(tj [{0,0,1,1}]).count p)=bi;decide +kernel
theorem VR{rs:Fl}(F:aQ rs)(a:lh rs=bi):bJ (pz rs)/\bZ (pz rs):=by
 let p:(pz rs).Perm (rs.map λy=>(y.1,aK<|dc rs y.2 4)):=gj _ _;let hw:=F.yc a p;$({yy hw ?_ λz b=>?_,hw})
 .rw[p.length_eq,a8];$({ir.2 F.ne,F.aY})
 let(y,c,rfl):=a5.1<|p.mem_iff.1 b;$(F.nm y c)
def Sl(t:Slot)(d:Dat):Prop:=t=.O d\/t=.D d
abbrev oD:List Str:=["yq","yqq","yqqq"]
theorem Oz:∀n∈oD,cy n=bd:=by ext n a;simp?[dV,eT,or_false]at a;let rfl||rfl||rfl:=a<;>decide +kernel
theorem JA:oD.Nodup:=by decide +kernel
def uS(web a:bb):Prop:=(a.map (·.1)).Perm (web.map (·.1))/\∀z∈a,∃p∈web,p.1=z.1/\hV p.2 z.2
def uS.ok (t:uS web a)(h:bJ web)(hw:bZ web):bJ a/\bZ a:=by
 let nd:(a.map (·.1)).Nodup:=t.1.nodup_iff.2 h.nd;let d:bZ a:=j0.turn hw t.1 λx hx=>by let(z,b,rfl):=a5.1<|t.1.mem_iff.2 hx;let(p,c,e,f):=t.2 z b;rwa[eN nd b,<-e,eN h.nd c]
 let g:=t.1.length_eq;simp?[a8,a8]at g;let aY:=h.aY;$({yy d (by lia) λz b=>?_,d});let(p,c,e,_):=t.2 z b;rw[<-e];$(h.nm p c)
def C0(fn:dB):Prop:=∀p:Int×Int,∃r a,fn (pD p) []=ac (r,a)/\∃(web:bb) (b:Int×Int),r=.O (.L<|web.map pairD)/\a=pD b/\bJ web/\bZ web
theorem K1(T:Txt mg)(T2:ik mg)(I:aN P w K mg base "_law_take" 1 (dr K 0 gn)){V' Wa:dB}{Wb Wc:aJ}(q1:aN P w K mg base "_law_rows" 4 (dr K 0 V'))(s1:A0 V')(Y:aN P w K mg base "_law_meeting" 1 (ay K Wb))(s2:CQ Wb)(q3:aN P w K mg base "_law_web" 4 (ay K Wc))(s3:Bw Wc)(q4:aN P w K mg base "_law_put_in" 2 (dr K 2 Wa))(s4:Cv Wa){f:cA}{fd:gi}(F:ba K "_law_any_web" "_law_any_web" yX f fd):∃fn,aS P w K mg base aT 5 f fd ["_law_purse_here"] (dr K 0 fn)/\C0 fn:=by
 $$$(pZ (j:=0) F CK (n:=0) ρ ?hb ?post)
 case hb=>let nd:=CK.nd;$$$T2;$("h")
 clear T T2 F I q1 Y q3 q4;ext p;$$$(pf ρ ?w);show WS _ [.io (pD p),.no,.no,.no,.no,.no,.no,.no,.no] _;let(_,_,e1,rs,I,rfl,rfl,L,ok,_):=s1 p 9 ⋯ ⋯;$$$(ao<|bc (Z2:=[.io (pD I),.O<|aC rs,.no,.no,.no,.no,.no,.no,.no]) (dz ρ (ae ρ ak) ρ e1 ρ) ρ<|au ?_);$$$(ao<|WS.mono (Q:=λo=>∃e t1,Sl t1 (aC e)/\aQ e/\lh e=bi/\o=.next [.io (pD I),t1,.no,.no,.no,.no,.no,.no,.no]) ?m1 ?m2)
 case m1=>$(eA (eC (ah (aE (ae ρ ak)<|s2 rs ok.aY) ρ) ρ) (λz=>?_) λz=>bp {rs,_,τ ρ,L,z,ρ});let(x,r',rfl):=aa4 L.ne;let(R,S):=NS<|L.nm x eR;$(ao<|bc (Z2:=[.io (pD I),.O<|aC [(x.1,⟨0,0,1,1⟩)],.no,.no,.no,.no,.no,.no,.no]) (dW (ae (hU (ae (mB (c:=az x) (dD ρ ρ ρ<|Ja (k:=0) ρ) ρ ρ)<|ae ρ<|ae ρ<|ae ρ<|ae ρ ak) (by simp[a9])) ak) (by simp[a9])) ρ<|au<|bp ⟨_,_,ι ρ,R,S,ρ⟩)
 ext _ ⟨e,t1,Wm,J,hm,rfl⟩;clear L ok e1;let(h,hw):=VR J hm;let e3:=s3 e (by let:=J.aY;$_) (λy B=>iF<|J.nm y B) J.nd<|λy _=>J.some y.2;rw[QQ]at e3;generalize pz e=g at *;$(au ?_);$$$(ao<|bc (Z2:=[.io (pD I),.D<|aC e,.O<|.L<|g.map pairD,.no,.no,.no,.no,.no,.no]) (aE (ae (d:=aC e) (Z1:=[.io (pD I),.D<|aC e,.no,.no,.no,.no,.no,.no,.no]) ?a1 ak) e3) ρ<|au ?a2)
 case a1=>let rfl||rfl:=Wm<;>rfl
 let aY:=h.aY;let sz:g.length<=sizeLine:=by$$(a9);lia
 $$$(ao (bc (Z2:=[.io (pD I),.D<|aC e,.D<|.L<|g.map pairD,.O (.L ((g.map (·.1)).map .str)),.no,.no,.no,.no,.no]) (dy (enc:=pairD) (xs:=g) (λp=>[.no,.D<|.str p.1,.D<|.L<|p.2.map .str]) (λp=>.str p.1) (bX ρ) ρ sz ?c4 ?c5 ?c6) ?c7<|au ?c8))
 case c4=>ext y B Z hd;let rfl||(z,rfl):=hd<;>rfl
 case c5=>ext p hp;rfl
 case c6=>ext p hp;rfl
 case c7=>rw[fm];rfl
 let(k0,p2,hk0,t0):=rQ I (m:=4) (by lia) (by lia);let tu:∀n∈g.map (·.1),bC n:=λn hn=>h.txt<|ι hn;let si:=uh oD k0;$$$(ao (e8 (λj Z=>∃web u v t C,Sl v (.L<|web.map pairD)/\Sl t (.L ((g.map (·.1)).map .str))/\Fr C/\bJ web/\bZ web/\(∀n∈web.map (·.1),n∈g.map (·.1)\/n∈oD.take j)/\Z=[.io (pD u),.D<|aC e,v,t,C,.no,.no,.no,.no]) (bX<|ah (jt (ah (dW (ae ρ<|ae ρ<|ae ρ ak) (by simp[a9])) ρ) (ah (dz ρ (ae ρ ak) ρ t0 ρ) ρ) si) ρ) {g,p2,_,_,_,τ ρ,ι ρ,ι ρ,h,hw,λn hn=>ι hn,ρ} ?st ?fin))
 case st =>
  ext j x hx _ ⟨web,u,v,t,C,G,U,f4,D,N,M,rfl⟩;rw[ee]at hx;let(n,O,rfl):=gs.1 hx;let Wq:j<k0:=by let:=(bg.1 O).1;rw[f']at this;$_
  rw[aa3,if_pos Wq]at O;let ny:=Oz n<|eK O;let tn:=iF ny;let Wt:=n9 tu tn true;let aY:=D.aY;let V:∀m∈oD.take j,m∈oD.take (j+1):=λm hm=>by rw[iu O];$(el.2<|ι hm)
  $({[.io (pD u),.D<|aC e,v,t,.D<|.str n,.no,.no,.no,.no],by let rfl||(d,rfl):=f4<;>rfl,?_});let l1:e9 (cK rC (qq 2)<|fC<|.int 8) [.io (pD u),.D<|aC e,v,t,.D<|.str n,.no,.no,.no,.no]=ac (am<|(web.length:Int)<8,[.io (pD u),.D<|aC e,v,t,.D<|.str n,.no,.no,.no,.no]):=by rw[<-a8 (as:=web) (f:=pairD)];let rfl||rfl:=G<;>$(bB<|aq (eG ρ ρ) ρ ρ)
  ext(c8:(web.length:Int)<8)
  rotate_left
  .rw[decide_eq_false c8]at l1;$(eY (v_and l1<|qz ρ ρ) ρ<|bp ⟨web,u,v,t,_,G,U,τ ⟨_,ρ⟩,D,N,λm hm=>(M m hm).imp id (V m),ρ⟩)
  rw[decide_eq_true c8]at l1;$(ao (eA (Z1:=[.io (pD u),.D<|aC e,v,.D (.L ((g.map (·.1)).map .str)),.D<|.str n,.no,.no,.no,.no]) (b:=!am (n∈g.map (·.1))) (v_and l1<|Aj ρ ?_) (λz=>?_) λz=>bp<|au<|bp ⟨web,u,v,_,_,G,τ ρ,τ ⟨_,ρ⟩,D,N,λm hm=>(M m hm).imp id (V m),ρ⟩))
  .let rfl||rfl:=U<;>$(bB<|aq ρ ρ Wt)
  simp?[l4,decide_eq_false_iff_not]at z;let(_,_,e4,x,a,b,p',hx,sc,rfl,rfl):=s4 u web n D N ∅ tn;let Wu:n∉web.map (·.1):=λhm=>(M n hm).elim z λhm=>by let(i,hi):=abF.1 hm;let Wv:=(bg.1 hi).1;rw[f']at Wv;rw[aa3,if_pos ∅]at hi;let:=kd JA hi O;$_
  let(R,S):=bZ.put D N hx sc Wu ny ∅;$(ao (bc (Z2:=[.io (pD p'),.D<|aC e,.O<|.L<|(eL web x a b n).map pairD,.D (.L ((g.map (·.1)).map .str)),.D<|.str n,.no,.no,.no,.no]) (r:=.O<|.L<|(eL web x a b n).map pairD) (Z1:=[.io (pD p'),.D<|aC e,.D<|.L<|web.map pairD,.D (.L ((g.map (·.1)).map .str)),.D<|.str n,.no,.no,.no,.no]) ?_ ρ<|au<|bp<|au<|bp ⟨_,p',_,_,_,ι ρ,τ ρ,τ ⟨_,ρ⟩,R,S,λm hm=>?_,ρ⟩))
  .let rfl||rfl:=G<;>$(dz ρ (ae ρ<|ae ρ ak) ρ e4 ρ)
  rw[tS]at hm;let rfl||hm:=dV.1 hm
  .$(τ (by rw[iu O];simp))
  $((M m hm).imp id (V m))
 ext _ ⟨web,u,v,t,C,G,U,f4,D,N,_,rfl⟩;clear h hw e3 si;let aY:=D.aY;$$$(au<|ao<|bc (Z2:=[.io (pD u),.D<|aC e,v,t,C,.O<|.L [],.no,.no,.no]) (dW ak<|rp _) ρ<|au ?_);$$$(ao (e8 (ds:=web.map pairD) (Z1:=[.io (pD u),.D<|aC e,.D<|.L<|web.map pairD,t,C,.O<|.L [],.no,.no,.no]) (λk Z=>∃(l:bb) (q:Int×Int) (t6 t7 W:Slot),Fr t6/\Fr t7/\Fr W/\(l.map (·.1)).Perm ((web.take k).map (·.1))/\(∀z∈l,∃p∈web,p.1=z.1/\hV p.2 z.2)/\Z=[.io (pD q),.D<|aC e,.D<|.L<|web.map pairD,t,C,.O<|.L<|l.map pairD,t6,t7,W]) ?i0 {[],u,_,_,_,ι ρ,ι ρ,ι ρ,.refl _,λz X=>(by$$$X),ρ} ?st2 ?fin2))
 case i0=>let rfl||rfl:=G<;>$(bX ρ)
 case fin2=>ext _ ⟨l,q,t6,t7,W,_,_,_,pm,tw,rfl⟩;rw[a8,ri]at pm;let(R,S):=uS.ok ⟨pm,tw⟩ D N;$(au<|ao<|bY ρ<|fN ⟨_,_,_,ρ,ρ,l,q,ρ,ρ,R,S⟩)
 ext k x hx _ ⟨l,q,t6,t7,W,f6,f7,f8,pm,tw,rfl⟩;rw[ee]at hx;let(z,ez,rfl):=gs.1 hx;let X:=eK ez;let rz:=D.rg z X;let lz:=D.len X;let wl:=pm.length_eq;simp?[a8,a8,f']at wl;$({[.io (pD q),.D<|aC e,.D<|.L<|web.map pairD,t,C,.O<|.L<|l.map pairD,.D<|.str z.1,.D<|.L<|z.2.map .str,W],by let rfl||(d,rfl):=f6<;>let rfl||(d,rfl):=f7<;>rfl,?_});let(i,Y,hi,u1):=rQ q (m:=z.2.length) ∅ (by lia);let(j,q3,hj,u2):=rQ Y (m:=l.length+1) (by lia) ∅;let ln:du (.L<|z.2.map .str)=ac z.2.length:=by simp[du]
 let Wx:du (.L<|l.map pairD)=ac l.length:=by simp[du]
 $$$(ao<|bc (Z2:=[.io (pD Y),.D<|aC e,.D<|.L<|web.map pairD,t,C,.O<|.L<|l.map pairD,.D<|.str z.1,.D<|.L<|z.2.map .str,.D<|.int (i:Int)]) (dz ρ (ae (eG ρ ln) ak) ρ u1 ρ) ?b1<|au ?b2)
 case b1=>let rfl||(d,rfl):=f8<;>rfl
 let s1:=zf z.2 i;let s2:=uh z.2 i;$(ao {_,nc<|G5 (xs:=l.map pairD) (n:=(j:Int)) (d:=pairD (z.1,z.2.drop i++z.2.take i)) (Z1:=[.io (pD q3),.D<|aC e,.D<|.L<|web.map pairD,t,C,.O<|.L<|l.map pairD,.D<|.str z.1,.D<|.L<|z.2.map .str,.D<|.int (i:Int)]) ρ (ae (ah (dz ρ (ae (ah (aq (r:=.D<|.int ((l.length+1:Nat):Int)) (eG ρ Wx) ρ ρ) ρ) ak) ρ u2 ρ) ρ)<|ae ?_ ak) ρ (by rw[a8];$$(a9);lia),au<|bp ⟨l.take j++(z.1,z.2.drop i++z.2.take i)::l.drop j,q3,.D<|.str z.1,.D<|.L<|z.2.map .str,.D<|.int (i:Int),τ ⟨_,ρ⟩,τ ⟨_,ρ⟩,τ ⟨_,ρ⟩,?_,?_,?_⟩})
 .dsimp[pairD];rw[ft];$(hU (ae ρ<|ae (ah (aq (ah (gQ ρ ρ s1) ρ) (ah (jt ρ ρ s2) ρ)<|eU (by simp[a9];lia)) ρ) ak) (by simp[a9]))
 .simp?[iu ez,ft,ft,fR];$(List.perm_middle.trans ?_);rw[<-ft,tz];$((List.Perm.cons z.1 pm).trans (ac1 _ _).symm)
 .ext y B;let B||B:=el.1 B
  .$(tw y<|adQ B)
  let rfl||B:=dV.1 B
  .$({z,X,ρ,z.2.take i,z.2.drop i,(tz ..).symm,ρ})
  $(tw y<|aaO B)
 simp?[ft,fR,z8,zc];rfl
theorem vd{a b:ew}(h:a.cps.toList=b.cps.toList):a=b:=Str.ext'<|aey.1 h
theorem fS(a b:ew):(a++b).cps.toList=a.cps.toList++b.cps.toList:=by rw[zd,r3]
theorem join_eq(sep:ew)(ys:List ew):kH sep ys=wm sep ys:=adf sep ys
theorem AX{a:Type}:∀(xs:List a) (f:a->Nat) (B:Nat),(∀x∈xs,f x<=B)->(xs.map f).sum<=xs.length*B
 |[],f,B,_=>by simp
 |x::xs,f,B,h=>by let h1:=h x eR;let h2:=AX xs f B λy b=>h y<|eH _ b;simp?[fR,pR,fq,acs];lia
theorem AG{f:DF}{F:FS}{out y:ew}{Z Z1:DS}(h:f Z=ac (.str y,Z1))(a:y.length<=a9)(b:(out++y).length<=a9):jQ f F out Z=F (out++y) Z1:=by$$(jQ);rw[h];show(if y.length<=a9 then ac y else al).bind _=_;rw[if_pos a];$(if_pos b)
theorem rV{F:FS}{out a:ew}{Z:DS}(b:(out++a).length<=a9):nM a F out Z=F (out++a) Z:=if_pos b
theorem mC{a:Type}{f:DF}{Z Z1:DS}{sep:ew}{xs:List a}(g:a->ew){B:Nat}(h:f Z=ac (.L (xs.map λx=>.str<|g x),Z1))(b:sep.length<=16)(c:∀x∈xs,(g x).length<=B)(hn:xs.length*B+xs.length<=1048576):ko sep f Z=ac (.str<|kH sep<|xs.map g,Z1):=by$(Cm h (nD g xs) {b,?_});let:=AX xs (λx=>(g x).length) B c;simp?[fm,a8];show(xs.map λx=>(g x).length).sum+_<=_;lia
def dh(web:bb):bb:=web.mergeSort λa b=>cj a.1 b.1
theorem Fu(web:bb):iH (web.map pairD)=(dh web).map pairD:=(tR (r:=λa b:ew×List ew=>cj a.1 b.1) (s:=dN) (f:=pairD)<|λa _ b _=>rfl).symm
theorem ke{web:bb}{p:ew×List ew}:p∈dh web↔p∈web:=(gj _ _).mem_iff
theorem xf(web:bb):(dh web).length=web.length:=(gj _ _).length_eq
theorem zY(web:bb):dh (web.map λp=>(p.1,aK p.2))=(dh web).map λp=>(p.1,aK p.2):=(tR (r:=λa b:ew×List ew=>cj a.1 b.1) (s:=λa b:ew×List ew=>cj a.1 b.1) (f:=λp:ew×List ew=>(p.1,aK p.2))<|λa _ b _=>rfl).symm
def cx(p:ew×List ew):Str:=ow++p.1++cm ": " ++ kH (cm " ") p.2
def cb(web:bb):Str:=kH (cm "\n") ((dh web).map λp=>cx (p.1,aK p.2))
theorem UG{p:ew×List ew}(h:p.2≠[]):p.1++cm ":" ++ kH (cm "") (p.2.map λn=>cm " " ++ n)=cx p:=by
 let key:∀l:List ew,l≠[]->(wm (cm "") (l.map λn=>cm " " ++ n)).cps.toList=(cm " ").cps.toList++(wm (cm " ") l).cps.toList:=by
  ext l;induction l with
  |nil=>ext h;$(absurd ρ h)
  |cons a l c =>
   ext _;cases l with
   |nil=>$(fS _ _)
   | cons b r=>let i:=c ⋯;show((cm " " ++ a)++cm "" ++ wm (cm "") ((b::r).map λn=>cm " " ++ n)).cps.toList=(cm " ").cps.toList++(a++cm " " ++ wm (cm " ") (b::r)).cps.toList;simp?[fS,i,fS,fS,fS,fS,show(cm "").cps.toList=[]from ρ];simp
 apply vd;$$(cx);rw[join_eq,join_eq];simp?[fS,key p.2 h,fS,fS,fS,fS,show(cm ": ").cps.toList=(cm ":").cps.toList++(cm " ").cps.toList from by decide +kernel,show ow.cps.toList=[]from ρ];simp
theorem bJ.short{web:bb}(h:bJ web){n:ew}(a:n∈web.map (·.1)\/n∈cB):n.length<=8:=by
 let a||a:=a
 .let(p,b,rfl):=a5.1 a;let:=h.nm p b;unfold cy at this;simp?[ec,decide_eq_true_eq]at this;lia
 simp?[cB,dV,eT,or_false]at a;let rfl||rfl||rfl||rfl:=a<;>decide +kernel
theorem tF{l:List ew}{n:ew}:n∈aK l↔n∈l:=(qy l).perm.mem_iff
theorem xu(sep:ew)(ys:List ew){B:Nat}(a:sep.length<=1)(h:∀y∈ys,y.length<=B):(kH sep ys).length<=ys.length*(B+1):=by$$(kH);rw[size_glued];let h1:=AX ys (λy=>y.length) B h;let h2:(ys.length-1)*sep.length<=ys.length:=m3 (afa (Nat.sub_le _ _) a) (by lia);simp?[Nat.mul_succ];lia
structure M3 (web:bb):Prop where
 n1:web.length<=8
 n2:∀p∈dh web,p.1.length<=8/\aK p.2≠[]/\(aK p.2).length<=12/\∀n∈aK p.2,n.length<=8
 n3:∀p∈dh web,(cx (p.1,aK p.2)).length<=200
theorem bJ.dQ{web:bb}(h:bJ web):M3 web:=by
 let n2:∀p∈dh web,p.1.length<=8/\aK p.2≠[]/\(aK p.2).length<=12/\∀n∈aK p.2,n.length<=8:=λp a=>by let a:=ke.1 a;let r:=h.rg p a;let e:=(qy p.2).perm.length_eq;$({h.short<|ι<|a5.2 ⟨p,a,ρ⟩,λz=>by rw[z]at e;simp at e;$_,by rw[e];$(h.len a),λn b=>h.short (r.2.2 n<|tF.1 b).1})
 $({h.aY.2,n2,λp a=>?_});let(a1,a2,c,d):=n2 p a;let:=xu (cm " ") (aK p.2) (by decide +kernel) d;dsimp[cx];simp?[hS,hS,hS,show(cm ": ").length=2 from by decide +kernel,show Str.empty.length=0 from ρ];show 0+p.1.length+2+(kH (cm " ")<|aK p.2).length<=200;let:=aaQ 9 c;lia
def qD(fn:aJ):Prop:=∀web:bb,bJ web->bZ web->fn [.L (web.map pairD)]=ac (.D<|.str<|cb web)
theorem U9(T:Txt mg){j l:aJ}(t:aN P w K mg base "must_web" 4 (ay K j))(u:Gp j)(v:aN P w K mg base "in_order" 2 (ay K l))(G:GV l){f:cA}{q:gi}(F:ba K "show_web" "show_web" A4 f q):∃fn,aS P w K mg base aT 5 f q ["web"] (ay K fn)/\qD fn:=by
 $$$(bQ F Cg (n:=1) ρ ?I ?C)
 case I=>let nd:=Cg.nd;$("h")
 clear T F t v;ext web h hw;let(n1,n2,n3):=h.dQ;let r:=G web ∅ h.nd λp e=>{λz=>by let:=(h.rg p e).1;rw[z]at this;simp at this,by let:=h.len e;lia,λn L=>h.txt ((h.rg p e).2.2 n L).1};rw[Fu,zY,fm]at r;$$$(bT ρ ?w);show WS _ [.D (.L<|web.map pairD),.no,.no,.no,.no] _;$(ao<|rT (ah (aE (ae ρ ak)<|u web h hw) ρ)<|au ?_);$$$(ao<|bc (dW ak<|rp _) ρ<|au ?_);let sl:=xf web;$$(cb);generalize dh web=c at *;$$$(ao<|e8 (λk Z=>∃g i b,Fr g/\Fr i/\Fr b/\Z=[.D (.L<|web.map pairD),.O<|.L ((c.take k).map λp=>.str<|cx (p.1,aK p.2)),g,i,b]) (bX<|ah (aE (ae ρ ak) r) ρ) ⟨_,_,_,ι ρ,ι ρ,ι ρ,ρ⟩ ?st ?D)
 case D=>ext _ ⟨g,i,b,_,_,_,rfl⟩;rw[a8,ri];$(au<|ao<|bY (v_res<|mC (xs:=c) (λp=>cx (p.1,aK p.2)) (B:=200) ρ (by decide +kernel) n3 (by lia)) ⟨_,ρ⟩)
 ext k x hx _ ⟨g,i,b,M,N,O,rfl⟩;rw[ee]at hx;let(p,ep,rfl):=gs.1 hx;let e:=eK ep;let(a1,a2,a3,Q):=n2 p e;let R:=n3 p e;let hk:=(bg.1 ep).1;rw[iu ep,ft];let m:((c.take k).map λp=>Dat.str<|cx (p.1,aK p.2)).length<sizeLine:=by rw[a8,f'];$$(a9);lia
 generalize (c.take k).map (λp=>Dat.str<|cx (p.1,aK p.2))=a at *;$({[.D (.L<|web.map pairD),.O<|.L a,.D<|.str p.1,.D<|.L<|(aK p.2).map .str,b],by let rfl||(d,rfl):=M<;>let rfl||(d,rfl):=N<;>rfl,?_});generalize o:kH (cm " ") (aK p.2)=J;let S:ko (cm " ") (cS 3) [.D (.L<|web.map pairD),.O<|.L a,.D<|.str p.1,.D<|.L<|(aK p.2).map .str,b]=ac (.str J,[.D (.L<|web.map pairD),.O<|.L a,.D<|.str p.1,.D<|.L<|(aK p.2).map .str,b]):=by let:=mC (f:=cS 3) (Z:=[.D (.L<|web.map pairD),.O<|.L a,.D<|.str p.1,.D<|.L<|(aK p.2).map .str,b]) (sep:=cm " ") (xs:=aK p.2) (λx=>x) (B:=8) ρ (by decide +kernel) Q (by lia);rw[y0,o]at this;$this
 $$$(ao<|bc (Z2:=[.D (.L<|web.map pairD),.O<|.L a,.D<|.str p.1,.D<|.L<|(aK p.2).map .str,.D<|.str J]) (v_res S) ?U<|au ?V)
 case U=>let rfl||(d,rfl):=O<;>rfl
 $(ao {_,nc<|sg (d:=.str<|cx (p.1,aK p.2)) ρ (ae ?_ ak) m,au<|bp ⟨.D<|.str p.1,.D<|.L<|(aK p.2).map .str,.D<|.str J,τ ⟨_,ρ⟩,τ ⟨_,ρ⟩,τ ⟨_,ρ⟩,ρ⟩});let W:(ow++p.1++cm ": " ++ J).length<=200:=by rw[<-o];$R
 let X:=W;rw[hS,hS,hS]at X;$$(wj);rw[AG (y:=p.1) (Z1:=[.D (.L<|web.map pairD),.O<|.L a,.D<|.str p.1,.D<|.L<|(aK p.2).map .str,.D<|.str J]) ρ (by$$(a9);lia) (by rw[hS];$$(a9);$_),rV (by rw[hS,hS];$$(a9);$_),AG (y:=J) (Z1:=[.D (.L<|web.map pairD),.O<|.L a,.D<|.str p.1,.D<|.L<|(aK p.2).map .str,.D<|.str J]) ρ (by$$(a9);lia) ∅];show(mI (ow++p.1++cm ": " ++ J) _).map _=_;$$(mI);rw[if_pos ∅,<-o];rfl
theorem Hc{web:bb}(a:1<=web.length/\web.length<=8)(nd:(web.map (·.1)).Nodup):mn [.L (web.map pairD)]=ac (.O<|.L<|(dh web).map pairD):=by let(p,r,rfl):=aa4<|ir.1 a.1;show iA [.L ((p::r).map pairD)]=_;show(firstsD<|(p::r).map pairD).bind _=_;rw[GA];show(if((p::r).map (·.1)).Nodup/\((p::r).map pairD).length<64 then _ else al)=_;rw[if_pos {nd,by rw[a8];lia},Fu]
theorem ND(T:Txt mg){b:aJ}(o:aN P w K mg base "_law_begun" 1 (ay K b))(q:rA b){f:cA}{g:gi}(F:ba K "_law_web_text" "_law_web_text" yC f g):∃fn,aS P w K mg base aT 2 f g ["_law_web_here"] (ay K fn)/\qD fn:=by
 $$$(bQ F D9 (n:=1) ρ ?D ?C)
 case D=>let nd:=D9.nd;$("h")
 clear T F o;ext web h hw;let(n1,n2,n3):=h.dQ;let t:=Hc h.aY h.nd;let sl:=xf web;let ag:∀p∈dh web,b [.L (p.2.map .str)]=ac (.O<|.L<|(aK p.2).map .str):=λp a=>by let a:=ke.1 a;let r:=h.rg p a;$(q p.2 (λz=>by rw[z]at r;simp at r) (by let:=h.len a;lia) λn c=>h.txt (r.2.2 n c).1)
 $$(cb);generalize dh web=d at *;let i:(cm "\n").length<=16:=by decide +kernel
 let j:(cm "").length<=16:=by decide +kernel
 $$$(bT ρ ?w);show WS _ [.D (.L<|web.map pairD)] _;$(ao ?_);$$$(bY (r:=.D<|.str<|kH (cm "\n") (d.map λp=>cx (p.1,aK p.2))) (Z1:=[.D (.L<|web.map pairD)]) ?G ?I)
 case I=>$(fN {_,ρ})
 $(v_res ?_);$$$(mC (xs:=d) (λp=>cx (p.1,aK p.2)) (B:=200) ?Q i n3 ?J)
 case J=>$_
 $(kN ?_);$$$(dy (enc:=pairD) (xs:=d) (λp=>[.no,.D<|.str p.1,.D<|.L<|p.2.map .str]) (λp=>Dat.str<|cx (p.1,aK p.2)) (bX<|ah (aE (ae ρ ak) t) ρ) ρ ?L ?M ?N ?O)
 case L=>$$(a9);$_
 case M=>ext y e Z hd;let rfl||(z,rfl):=hd<;>rfl
 case O=>ext y e;rfl
 ext p a;let(a1,u,a3,v):=n2 p a;let k:=n3 p a;let x:=UG (p:=(p.1,aK p.2)) u;let l:∀n∈aK p.2,(cm " " ++ n).length<=9:=λn c=>by rw[hS,show(cm " ").length=1 from by decide +kernel];let:=v n c;lia
 rw[<-x]at k ⊢;let m:=k;rw[hS,hS]at m;dsimp at m;$(ah (aq (ah (aq ρ ρ<|pj ?_) ρ) (mC (xs:=aK p.2) (λn=>cm " " ++ n) (B:=9) (ah (dy (enc:=Dat.str) (xs:=aK p.2) (λn=>[.no,.D<|.str n]) (λn=>.str<|cm " " ++ n) (bX<|ah (aE (ae ρ ak)<|ag p a) ρ) ρ ?_ ?_ ?_ ?_) ρ) j l (by lia))<|pj ?_) ρ)
 .$$(a9);$_
 .$$(a9);lia
 .ext y e Z hd;let rfl||(z,rfl):=hd<;>rfl
 .ext n c;let:=l n c;rw[hS]at this;$(ah (aq ρ ρ<|pj (by$$(a9);lia)) ρ)
 .ext y e;rfl
 rw[hS];$$(a9);$_
def num(i:Int):Str:=cm<|toString i
def cF(rs:Fl):Fl:=rs.mergeSort λx y=>cj x.1 y.1
def dk(x:ew×Ob):Str:=ow++x.1++cm " " ++ num x.2.l++cm " " ++ num x.2.b++cm " " ++ num x.2.r++cm " " ++ num x.2.t
def cJ(rs:Fl):Str:=kH (cm "\n")<|(cF rs).map dk
theorem tU{rs:Fl}{x:ew×Ob}:x∈cF rs↔x∈rs:=(gj _ _).mem_iff
theorem sd{rs:Fl}(c:(rs.map (·.1)).Nodup)(hl:rs.length<=8)(d:rs≠[]):mn [aC rs]=ac (.O<|aC<|cF rs):=by
 let e:∀rs:Fl,firstsD (rs.map az)=ac (rs.map (·.1)):=λrs=>by
  induction rs with
  |nil=>rfl
  |cons x rs g=>show(kW<|az x).bind (λy=>(firstsD<|rs.map az).map (y::·))=_;rw[g];rfl
 let(x,r,rfl):=aa4 d;show(firstsD<|(x::r).map az).bind _=_;rw[e];show(if((x::r).map (·.1)).Nodup/\((x::r).map az).length<64 then _ else al)=_;rw[if_pos {c,by rw[a8];lia}];dsimp[aC,cF];rw[tR (r:=λx y:ew×Ob=>cj x.1 y.1) (s:=dN) (f:=az) (λa _ b _=>rfl)];rfl
theorem Bh(x:ew×Ob):kH (cm " ") [x.1,num x.2.l,num x.2.b,num x.2.r,num x.2.t]=dk x:=by rw[join_eq];apply vd;$$(dk);simp?[wm,fS,nE];rfl
def fw(x:ew×Ob):Prop:=x.1.length<=8/\∀i∈[x.2.l,x.2.b,x.2.r,x.2.t],(num i).length<=60/\i.natAbs.log2<1920
theorem G7{i:Int}(h0:0<=i)(h:i<10 ^ 59):(num i).length<=60/\i.natAbs.log2<1920:=by
 constructor
 .let:=int_text_length_le10 (a:=i) (k:=59) ⋯ ∅;$$(num);rw[PySem.ofString_length];$this
 ext(z:i.natAbs=0)
 .rw[z];decide
 exact hQ ((ad2 z).2 (show i.natAbs<2 ^ 200 by$_)) ⋯
theorem sJ{x:ew×Ob}(h:fw x):(dk x).length<=300:=by let:=h.1;let h1:=(h.2 x.2.l ⋯).1;let h2:=(h.2 x.2.b ⋯).1;let h3:=(h.2 x.2.r ⋯).1;let h4:=(h.2 x.2.t ⋯).1;$$(dk);simp?[hS];rw[show(cm " ").length=1 from by decide +kernel,show Str.empty.length=0 from ρ];lia
def tD(fn:aJ):Prop:=∀rs:Fl,aQ rs->(∀x∈rs,fw x)->fn [aC rs]=ac (.D<|.str<|cJ rs)
theorem wd{f:DF}{F:FS}{out:ew}{i:Int}{Z Z1:DS}(h:f Z=ac (.int i,Z1))(a:i.natAbs.log2<1920)(b:(out++num i).length<=a9):jQ f F out Z=F (out++num i) Z1:=by$$(jQ);rw[h];show(if i.natAbs.log2<1920 then ac (toString i:ew)else al).bind _=_;rw[if_pos a];$(if_pos b)
theorem Pq{f:DF}{Z Z1:DS}{sep:ew}{ls:List ew}{B:Nat}(h:f Z=ac (.L<|ls.map .str,Z1))(a:sep.length<=16)(b:∀x∈ls,x.length<=B)(c:ls.length*B+ls.length<=1048576):ko sep f Z=ac (.str<|kH sep ls,Z1):=by let:=mC (λx:ew=>x) h a b c;rw[y0]at this;$this
def md(x:ew×Ob):DS:=[.no,.D<|.str x.1,.D<|.int x.2.l,.D<|.int x.2.b,.D<|.int x.2.r,.D<|.int x.2.t]
theorem TU{x:ew×Ob}(h:fw x):wj (jQ (cS 1)<|nM (cm " ")<|jQ (cS 2)<|nM (cm " ")<|jQ (cS 3)<|nM (cm " ")<|jQ (cS 4)<|nM (cm " ")<|jQ (cS 5) mI) (md x)=ac (.str<|dk x,md x):=by
 let d:=sJ h;let(h0,a):=h;let e:=(a x.2.l ⋯).2;let f:=(a x.2.b ⋯).2;let g3:=(a x.2.r ⋯).2;let g:=(a x.2.t ⋯).2
 let c:=d;unfold dk at c;simp?[hS]at c;$$(wj);rw[AG (y:=x.1) (Z1:=md x) ρ (by$$(a9);lia) (by simp?[hS];$$(a9);$_),rV (by simp?[hS];$$(a9);$_),wd (i:=x.2.l) (Z1:=md x) ρ e (by simp?[hS];$$(a9);$_),rV (by simp?[hS];$$(a9);$_),
  wd (i:=x.2.b) (Z1:=md x) ρ f (by simp?[hS];$$(a9);$_),rV (by simp?[hS];$$(a9);$_),wd (i:=x.2.r) (Z1:=md x) ρ g3 (by simp?[hS];$$(a9);$_),rV (by simp?[hS];$$(a9);$_),
  wd (i:=x.2.t) (Z1:=md x) ρ g (by simp?[hS];$$(a9);$_)]
 show(mI (dk x) _).map _=_;$$(mI);rw[if_pos (by$$(a9);lia)];rfl
theorem Rw(T:Txt mg){f:cA}{d:gi}(F:ba K "show_floor" "show_floor" wY f d):∃fn,aS P w K mg base aT 1 f d ["floor"] (ay K fn)/\tD fn:=by
 $$$(bQ F C8 (n:=1) ρ ?D ?C)
 case D=>let nd:=C8.nd;$("h")
 clear T F;ext rs b h;let aY:=b.aY;let e:∀x∈cF rs,fw x:=λx hx=>h x<|tU.1 hx;let hsl:(cF rs).length=rs.length:=(gj rs _).length_eq;let sr:=sd b.nd aY b.ne;let g:(cm "\n").length<=16:=by decide +kernel
 $$(cJ);generalize cF rs=a at *;$$$(bT ρ ?w);show WS _ [.D (aC rs)] _;$(ao ?_);$$$(bY (r:=.D<|.str<|kH (cm "\n")<|a.map dk) (Z1:=[.D (aC rs)]) ?G ?I)
 case I=>$(fN {_,ρ})
 $(v_res ?_);$$$(mC (xs:=a) dk (B:=300) ?Q g (λx hx=>sJ<|e x hx) ?J)
 case J=>lia
 $(kN ?_);$$$(dy (enc:=az) (xs:=a) md (λx=>Dat.str<|dk x) (bX<|ah (aE (ae ρ ak) sr) ρ) ρ ?L ?M ?N ?O)
 case L=>$$(a9);lia
 case M=>ext y c Z hd;let rfl||(z,rfl):=hd<;>rfl
 case N=>ext y c;$(TU<|e y c)
 ext y c;rfl
theorem Qq(T:Txt mg){f:cA}{e:gi}(F:ba K "_law_floor_text" "_law_floor_text" xQ f e):∃fn,aS P w K mg base aT 1 f e ["_law_rows_here"] (ay K fn)/\tD fn:=by
 $$$(bQ F EW (n:=1) ρ ?C ?D)
 case C=>let nd:=EW.nd;$("h")
 clear T F;ext rs d k;let aY:=d.aY;let g:∀x∈cF rs,fw x:=λx hx=>k x<|tU.1 hx;let hsl:(cF rs).length=rs.length:=(gj rs _).length_eq;let sr:=sd d.nd aY d.ne;let h:(cm "\n").length<=16:=by decide +kernel
 let j:(cm " ").length<=16:=by decide +kernel
 $$(cJ);generalize cF rs=c at *;$$$(bT ρ ?w);show WS _ [.D (aC rs)] _;$(ao ?_);$$$(bY (r:=.D<|.str<|kH (cm "\n")<|c.map dk) (Z1:=[.D (aC rs)]) ?G ?I)
 case I=>$(fN {_,ρ})
 $(v_res ?_);$$$(mC (xs:=c) dk (B:=300) ?W h (λx hx=>sJ<|g x hx) ?J)
 case J=>lia
 $(kN ?_);$$$(dy (enc:=az) (xs:=c) (λx=>[.no,.D<|az x]) (λx=>Dat.str<|dk x) (bX<|ah (aE (ae ρ ak) sr) ρ) ρ ?L ?M ?N ?O)
 case L=>$$(a9);lia
 case M=>ext y a Z hd;let rfl||(z,rfl):=hd<;>rfl
 case O=>ext y a;rfl
 ext x hx;let(n1,n2):=g x hx;rw[<-Bh];let C:∀i∈[x.2.l,x.2.b,x.2.r,x.2.t],tW [.int i]=ac (.D<|.str<|num i):=λi hi=>if_pos (n2 i hi).2;let m:∀y∈[x.1,num x.2.l,num x.2.b,num x.2.r,num x.2.t],y.length<=60:=λy a=>by
  let rfl||a:=dV.1 a
  .lia
  let(i,hi,rfl):=a5.1 (show y∈[x.2.l,x.2.b,x.2.r,x.2.t].map num from a);$((n2 i hi).1)
 $(Pq (ls:=[x.1,num x.2.l,num x.2.b,num x.2.r,num x.2.t]) (B:=60) ?_ j m ⋯);$(kN ?_);$$$(aq (r:=.O<|.L<|[x.1,num x.2.l,num x.2.b,num x.2.r,num x.2.t].map .str) (ah (dW (ae (dD ρ ρ ρ ρ) ak) (by show 1<=a9;$$(a9);decide)) ρ) (ah (dy (enc:=Dat.int) (xs:=[x.2.l,x.2.b,x.2.r,x.2.t]) (λi=>[.no,.D<|.int i]) (λi=>Dat.str<|num i) (vY<|ah (gQ ρ ρ (r:=.D<|.U [.int x.2.l,.int x.2.b,.int x.2.r,.int x.2.t]) ρ) ρ) ρ ?Q ?R ?S ?U) ρ)<|eU ?V)
 case Q=>show 4<=a9;$$(a9);decide
 case R=>ext y a Z hd;let rfl||(z,rfl):=hd<;>rfl
 case S=>ext i hi;$(ah (aE (ae ρ ak)<|C i hi) ρ)
 case U=>ext y a;rfl
 show 1+4<=a9;$$(a9);decide
end
section
open PySem.NumText
section
variable{P:hE}{w:iR}{K:e6}{mg:ew->Option bt}{base:k7}
def fI(x:ew):Prop:=∀c∈x.cps.toList,c<128
theorem fI.ok{x:ew}(h:fI x):o3 x=bd:=C6 (by rw[qo];ext a b;$(decide_eq_true<|h a<|qt.2 b))
theorem uN{x:ew}(h:bC x):fI x:=by ext c a;let:=(qo ..).1 h.fu c (qt.1 a);$$$$this
theorem dI{x y:ew}(h:fI x)(h':fI y):fI (x++y):=by ext c a;rw[fS]at a;$((el.1 a).elim (h c) (h' c))
theorem ve{s:ew}(a:fI s):∀{ps:List ew},(∀p∈ps,fI p)->fI (wm s ps)
 |[],_=>λc b=>(by$$$b)
 |[p],h=>h p eR
 |p::q::r,h=>dI (dI (h p eR) a) (ve a λx hx=>h x<|eH _ hx)
theorem kP{x:ew}(h:x.cps.all (·<128)=bd):fI x:=by ext c a;let:=(qo ..).1 h c (qt.1 a);$$$$this
theorem Hm{web:bb}(h:bJ web):fI (cb web):=by$$(cb);rw[join_eq];$(ve (kP (by decide +kernel)) λt b=>?_);let(p,a,rfl):=a5.1 b;let a:=ke.1 a;$$(cx);rw[join_eq];$(dI (dI (dI (kP (by decide +kernel))<|uN<|iF<|h.nm p a)<|kP (by decide +kernel)) (ve (kP (by decide +kernel)) λn c=>uN<|h.txt ((h.rg p a).2.2 n (tF.1 c)).1))
theorem lG{i:Int}(h:0<=i):fI (num i):=by
 let(m,rfl):=abm h;ext c a;let a:c∈(afI 10 m).map af2:=by rw[<-aeB m];$a
 let(ch,b,rfl):=a5.1 a;let:=acg<|acZ ⋯ ⋯ b;lia
theorem Gs{rs:Fl}(F:aQ rs):fI (cJ rs):=by$$(cJ);rw[join_eq];let bl:fI (cm " "):=kP (by decide +kernel);$(ve (kP (by decide +kernel)) λt a=>?_);let(x,hx,rfl):=a5.1 a;let hx:=tU.1 hx;let r:=F.row x hx;$$(dk);$(dI (dI (dI (dI (dI (dI (dI (dI (dI (kP (by decide +kernel))<|uN<|iF<|F.nm x hx) bl)<|lG r.1) bl)<|lG r.2.2.1) bl)<|lG ∅) bl)<|lG ∅)
theorem ne_self{t:ew}(h:fI t):fE true (.str t) (.str t)=ac (.D<|.bl false):=by rw[va (gv h.ok) (gv h.ok),kh];simp
def Fo(s:Slot):Prop:=∀c,s≠.io c
theorem l9{i:Nat}{r:Res}{Z Z2:DS}{t:Slot}(h:Fo t)(e:Z[i]?=ac t:=by rfl)(a:Z.set i (j9 r)=Z2:=by rfl):kz i r Z=ac Z2:=by
 $$(kz);rw[e,<-a];cases t with
 |io c=>$(absurd ρ (h c))
 |_=>rfl
end
end
local macro_rules | `(tactic| walk_at "0")=>Mq.fs "Iz DOO|UC rrrrDA|DE.alt&G3 rarA&MR rarA|Sv rarA"
section
variable{P:hE}{w:iR}{K:e6}{mg:ew->Option bt}{base:k7}
theorem Pw(T:Txt mg)(F:ba K "is_whole" "is_whole" Bq f c):aS P w K mg base aT 1 f c ["thing"] (ay K iP):=by
 refine' vS F E9 ?B ?C ?D
 case B =>
  ext ds r h;unfold iP at h;$$$$$h
  .rfl
  cases h
 case C=>$("h")
 ext ds r h;unfold iP at h;$$$$$h
 .ext1 d;cases e:iG d "int" with
  |none=>simp!
  |some a =>
   cases g:iG d "bool" with
   |none=>simp!
   |some b=>rw[e,g]at h;$$$h;$$$a<;>simp[ic,gy,iQ,mh,nH,oU,jo,cS,kQ,uW,e,g]
 cases h
end
theorem uo{f:DF}{fa:AF}{Z Z1 Z2:DS}{y z:ew}(h:f Z=ac (.str y,Z1))(h':fa Z1=ac ([.str z],Z2))(a:z.length≠0/\y.length+2<=a9):qx f fa Z=ac (.O<|.L<|(Txt.split y z).map .str,Z2):=by$$(qx);rw[h];simp?[gD];rw[h'];$(if_pos a)
section
open PySem.NumText
section
variable{P:hE}{w:iR}{K:e6}{mg:ew->Option bt}{base:k7}
theorem IC{x:ew}(h:l7 x=bd):aaf x.cps.toList/\x.cps.toList≠[]:=by let(h1,_,a):=ug.1 h;$({a,λz=>?_});let:=len_list x;rw[z]at this;simp at this;$_
theorem rW:cm " "=⟨#[32]⟩:=by decide +kernel
theorem BO:cm "\n"=⟨#[10]⟩:=by decide +kernel
theorem xy{d d':Dat}{Z:DS}(h:d=d'):∃a,Out.ret (.D d) Z=.ret (.D d') a:={Z,by rw[h]}
def iJ(x:ew):Dat:=if l7 x=bd then .int (vl x:Nat)else .aP
def jT(c:Nat):Bool:=am (48<=c)&&am (c<=57)
structure mf (x:ew):Prop where
 fu:x.cps.all (·<128)=bd
 len:x.length<=1000000
theorem Hg{x:ew}(h:mf x):x.length<=sizeLine:=m3 h.len (by$$(a9);decide)
theorem Vv{x:ew}(h:mf x):∀c∈x.cps.toList,c<128:=by ext c a;let:=(qo ..).1 h.fu c (qt.1 a);$$$$this
def D6(fn:aJ):Prop:=∀x,mf x->fn [.str x]=ac (.D<|iJ x)
theorem OJ(c:Nat):(!am (([c]:List Nat)<[48])&&!am (([57]:List Nat)<[c]))=jT c:=by
 let a:am (([c]:List Nat)<[48])=am (c<48):=by apply qh.2;simp[aaE]
 let b:am (([57]:List Nat)<[c])=am (57<c):=by apply qh.2;simp[aaE]
 rw[a,b];$$(jT);ext(d:48<=c)<;>ext(e:c<=57)<;>simp[d,e]<;>$_
theorem Mm(T:Txt mg)(l:eB K mg "MOST_FIGURES" (.int 60)){f:cA}{i:gi}(F:ba K "read_number" "read_number" zo f i):∃fn,aS P w K mg base aT 1 f i ["word"] (ay K fn)/\D6 fn:=by
 $$$(bQ F EJ (n:=1) ρ ?B ?C)
 case B=>let nd:=EJ.nd;$("h")
 clear T F l;ext x tx;let hl:du (.str x)=ac x.length:=if_pos<|Hg tx;$$$(bT ρ ?w);show WS _ [.D (.str x)] _;$("w");$("wif");$({λb=>?_,λb=>?_})
 .$("w");$(xy ?_);$$(iJ);rw[if_neg];ext hd;let(m,o,_):=ug.1 hd;simp at b;$_
 $("w");$$$(mV<|vp<|uD<|fZ<|lS<|l6<|fZ<|jS (pF (λx=>[.no,.D x]) (λ_=>true) (λd=>match d with|.str y=>.bl (y.cps.toList.all jT)|_=>.aP) (Ij ?D tx.fu) ρ ?G ?I ?J ?L ?M)<|lR ?N)
 case D=>$("v")
 case G=>rw[a8,sb];$(Hg tx)
 case I=>ext y a Z hd;let rfl||(z,rfl):=hd<;>rfl
 case J=>ext y a;rfl
 case L=>ext y a _;let(c,p,rfl):=a5.1 a;show jk eP eP (fC<|.str "0") (cS 1) (fC<|.str "9") [.no,.D<|.str ⟨#[c]⟩]=ac (.bl<|([c]:List Nat).all jT,[.no,.D<|.str ⟨#[c]⟩]);let q:eP (.str "0") (.str ⟨#[c]⟩)=ac (.D<|.bl<|!am (([c]:List Nat)<[48])):=ρ;let t:eP (.str ⟨#[c]⟩) (.str "9")=ac (.D<|.bl<|!am (([57]:List Nat)<[c])):=ρ;let:=yF (o1:=eP) (o2:=eP) (f:=fC<|.str "0") (g:=cS 1) (h:=fC<|.str "9") (Z:=[.no,.D<|.str ⟨#[c]⟩]) ρ ρ q ρ t;rw[this,OJ];simp
 case M=>ext y a;rfl
 let e:((x.cps.toList.map λc=>Dat.str ⟨#[c]⟩).filter λ_=>true).map (λd=>match d with|.str y=>Dat.bl (y.cps.toList.all jT)|_=>Dat.aP)=x.cps.toList.map λc=>Dat.bl (jT c):=by rw[aaU.2 (by intros;rfl),fm];apply sH;ext c p;simp
 let j:l7 x=x.cps.toList.all jT:=by
  unfold l7 jT;simp at b;let u:am (1<=x.length)=bd:=by simp;$_
  let v:am (x.length<=60)=bd:=by simp;$_
  rw[u,v];rfl
 $({.D<|.bl<|x.cps.toList.all jT,by rw[e];$(xI jT _),_,ρ,λB=>?_,λB=>?_})
 .$("w");$(xy ?_);$$(iJ);rw[j,if_neg];ext z;rw[z]at B;$$$B
 let hd:l7 x=bd:=by rw[j];$$$$B
 let k:vz [.str x]=ac (.D<|.int (vl x:Nat)):=by let(m,o,O):=ug.1 hd;show(if x.length<=640 then(aeM x).map λn=>Res.D (.int n)else al)=_;rw[if_pos ∅,intText_digits O (IC hd).2 ∅];rfl
 $(bp<|au ?_);$(ao ?_);$(bY (r:=.D<|.int (vl x:Nat)) (Z1:=[.D (.str x)]) (rS ρ<|aE (ae ρ ak) k) ?_);$(fN ?_);$(xy ?_);$$(iJ);rw[if_pos hd]
end
end
section
open PySem.NumText
section
variable{P:hE}{w:iR}{K:e6}{mg:ew->Option bt}{base:k7}
theorem G4(c:Nat):∀{ps:List (List Nat)}{p:List Nat}{a:Nat},p∈ps->a∈p->a∈inter c ps
 |[q],p,a,b,d=>by rw[ka.1 b]at d;$d
 | q::r::ps,p,a,b,d=>by
  show a∈q++c::inter c (r::ps);let rfl||b:=dV.1 b
  .$(aaP _ d)
  $(mA _<|eH _<|G4 c b d)
theorem N9(c:Nat){x:ew}(h:mf x):∀p∈Txt.split x ⟨#[c]⟩,mf p:=by
 ext p b;$({?_,m3 (afW b) h.len});rw[qo];ext a d;let e:=congrArg (λz:ew=>z.cps.toList)<|abS x ⟨#[c]⟩;let:a∈x.cps.toList:=by rw[<-show(wm ⟨#[c]⟩<|Txt.split x ⟨#[c]⟩).cps.toList=x.cps.toList from e,oE];$(G4 c (a5.2 ⟨p,b,ρ⟩)<|qt.2 d)
 $(decide_eq_true<|Vv h a this)
theorem Vy(y z:ew):(Txt.split y z).length<=y.length+2:=split_len y z
def rR(x:ew):List Dat:=((Txt.split x<|cm " ").take 1).map .str++((Txt.split x<|cm " ").drop 1).map iJ
def GO(fn:aJ):Prop:=∀x,mf x->fn [.str x]=ac (.D<|.U<|rR x)
theorem Q8(a:List ew):fD (.L<|a.map Dat.str) al (ac 1)=ac (.O<|.L<|(a.take 1).map Dat.str):=by show ac (Res.O<|.L<|cutD (a.map Dat.str) al<|ac 1)=_;rw[show(1:Int)=((1:Nat):Int)from ρ,mH,z8]
theorem CW(a:List ew):fD (.L<|a.map Dat.str) (ac 1) al=ac (.O<|.L<|(a.drop 1).map Dat.str):=by show ac (Res.O<|.L<|cutD (a.map Dat.str) (ac 1) al)=_;rw[show(1:Int)=((1:Nat):Int)from ρ,nQ,zc]
theorem Qk(T:Txt mg){b:aJ}(g:aN P w K mg base "read_number" 1 (ay K b))(h:D6 b){f:cA}{d:gi}(F:ba K "read_row" "read_row" zS f d):∃fn,aS P w K mg base aT 2 f d ["line"] (ay K fn)/\GO fn:=by
 $$$(bQ F G9 (n:=1) ρ ?C ?B)
 case C=>let nd:=G9.nd;$("h")
 clear T F g;ext x tx;let hl:=tx.len;obtain⟨a,hw⟩:∃a,a=Txt.split x (cm " "):={_,ρ};let i:∀p∈a,mf p:=by rw[hw,rW];$(N9 32 tx)
 let wf:a.length<=2000002:=by rw[hw];let:=Vy x<|cm " ";$_
 $$$(bT ρ ?w);show WS _ [.D (.str x),.no] _;$(ao ?_);$(bc (Z2:=[.D (.str x),.O<|.L<|a.map .str]) (uo (y:=x) (z:=cm " ") ρ (ae ρ ak) {by decide +kernel,∅}) (by rw[<-hw];rfl) ?_);$(au ?_);$(ao ?_);$$$(bY (r:=.D<|.U<|rR x) (aE (ae (ah (aq (ah (gZ<|jt ρ ρ<|Q8 a) ρ) (ah (dy (enc:=Dat.str) (xs:=a.drop 1) (λy=>[.no,.D<|.str y]) iJ (bX<|ah (gZ<|gQ ρ ρ<|CW a) ρ) ρ ?D ?G ?I ?J) ρ)<|eU ?L) ρ) ak) ?M) ?N)
 case D=>rw[iW];$$(a9);$_
 case G=>ext y c Z hd;let rfl||(z,rfl):=hd<;>rfl
 case I=>ext y c;let e:=h y<|i y<|aaO c;$(ah (aE (ae ρ ak) e) ρ)
 case J=>ext y c;rfl
 case L=>rw[a8,a8,f',iW];$$(a9);$_
 case M=>$$(rR);rw[<-hw];rfl
 $(fN {_,ρ})
end
end
section
open PySem.NumText
section
variable{P:hE}{w:iR}{K:e6}{mg:ew->Option bt}{base:k7}
theorem wD{x:ew}(h:cy x=bd){c:Nat}(hc:c<97):c∉x.cps.toList:=by unfold cy at h;simp?[ec]at h;ext z;let:=ib.1 h.1.2 c z;unfold gw at this;simp at this;$_
theorem lH{i:Int}(h:0<=i){c:Nat}(hc:c<48):c∉(num i).cps.toList:=by let(m,rfl):=abm h;ext z;let:=Iw m c z;$_
theorem vK{i:Int}(h:0<=i)(c:(num i).length<=60):iJ (num i)=.int i:=by
 let(m,rfl):=abm h;let hd:l7 (num (m:Int))=bd:=by
  refine ug.2 {?_,c,Iw m};let:=len_list<|num (m:Int);cases e:(num (m:Int)).cps.toList with
  |nil=>let v:=BZ m;let n:=yY m;rw[show(cm<|toString ((m:Nat):Int)).cps.toList=[]from e]at n;let:=congrArg List.length n;rw[a8]at this;let:=Nat.length_toDigits_pos (b:=10) (n:=m);simp at *
  |cons a l=>rw[<-this,e];simp
 unfold iJ;rw[if_pos hd];$(congrArg (λz:Nat=>Dat.int (z:Int))<|BZ m)
theorem Nh{x:ew×Ob}(c:cy x.1=bd)(hx:0<=x.2.l/\0<=x.2.b/\0<=x.2.r/\0<=x.2.t):Txt.split (dk x) (cm " ")=[x.1,num x.2.l,num x.2.b,num x.2.r,num x.2.t]:=by
 rw[<-Bh,join_eq,rW];$(uU 32 ⋯ λp a=>?_);simp?[dV,eT,or_false]at a;let rfl||rfl||rfl||rfl||rfl:=a
 .$(wD c ⋯)
 .$(lH hx.1 ⋯)
 .$(lH hx.2.1 ⋯)
 .$(lH hx.2.2.1 ⋯)
 $(lH hx.2.2.2 ⋯)
theorem yh(c d:Nat)(h:c≠d):∀{ps:List (List Nat)},(∀p∈ps,c∉p)->c∉inter d ps
 |[],_=>by ext z;$$$z
 |[p],k=>k p eR
 | p::q::r,k=>by
  ext z;let z||z:=el.1 (show c∈p++d::inter d (q::r)from z)
  .$(k p eR z)
  let rfl||z:=dV.1 z
  .$(h ρ)
  $(yh c d h (λs a=>k s<|eH _ a) z)
theorem M2{x:ew×Ob}(c:cy x.1=bd)(hx:0<=x.2.l/\0<=x.2.b/\0<=x.2.r/\0<=x.2.t):10∉(dk x).cps.toList:=by
 rw[<-Bh,join_eq,rW,oE];$(yh 10 32 ⋯ λp d=>?_);let(q,a,rfl):=a5.1 d;simp?[dV,eT,or_false]at a;let rfl||rfl||rfl||rfl||rfl:=a
 .$(wD c ⋯)
 .$(lH hx.1 ⋯)
 .$(lH hx.2.1 ⋯)
 .$(lH hx.2.2.1 ⋯)
 $(lH hx.2.2.2 ⋯)
theorem pd(rs:Fl):(cF rs).Perm rs:=gj _ _
theorem MI{rs:Fl}(F:aQ rs):Txt.split (cJ rs) (cm "\n")=(cF rs).map dk:=by
 $$(cJ);rw[join_eq,BO];$(uU 10 (λz=>?_) λp a=>?_)
 .let z:cF rs=[]:=sq.1 z;let:=(pd rs).length_eq;rw[z]at this;$(F.ne<|aaq.1 this.symm)
 let(x,hx,rfl):=a5.1 a;let hx:=tU.1 hx;let r:=F.row x hx;$(M2 (F.nm x hx) {r.1,r.2.2.1,∅,∅})
theorem Qd{x:ew×Ob}(a:cy x.1=bd)(hx:0<=x.2.l/\0<=x.2.b/\0<=x.2.r/\0<=x.2.t)(N:fw x):Dat.U (rR<|dk x)=az x:=by$$(rR);rw[Nh a hx];let n:=λi hi=>(N.2 i hi).1;show Dat.U [.str x.1,iJ<|num x.2.l,iJ<|num x.2.b,iJ<|num x.2.r,iJ<|num x.2.t]=_;rw[vK hx.1 (n _ ⋯),vK hx.2.1<|n _ ⋯,vK hx.2.2.1<|n _ ⋯,vK hx.2.2.2<|n _ ⋯];rfl
end
end
theorem QN{g:DF}{Z Z1:DS}{i:Int}(h:g Z=ac (.int i,Z1)):jN g Z=ac (ac i,Z1):=by$$(jN);rw[h];rfl
theorem Kp{f:DF}{l h:OF}{Z Z1 Z2 a:DS}{x:ew}{lo hi:Option Int}(b:f Z=ac (.str x,Z1))(c:l Z1=ac (lo,Z2))(hh:h Z2=ac (hi,a))(hx:x.length<=a9):alt (iD f l h) (vP f l h) Z=ac (.D<|.str<|acC x lo hi,a):=by
 $(rS ?_ ?_)
 .$$(iD);rw[b];simp?[gD];rw[c];simp?[gD];rw[hh];rfl
 $$(vP);rw[b];simp?[gD];rw[c];simp?[gD];rw[hh];$(if_pos hx)
section
open PySem.NumText
section
variable{P:hE}{w:iR}{K:e6}{mg:ew->Option bt}{base:k7}
def colon(x:ew):Str:=x++cm ":"
theorem Pp(x:ew):acC (colon x) al (ac<|-1)=x:=by
 let hl:(colon x).length=x.length+1:=by$$(colon);rw[hS];rfl
 let h:=afV (x:=colon x) (j:=-1) (k:=x.length) ⋯ ∅ ∅;rw[eq_of_beq h];apply vd;$$(colon);simp[fS];$(List.take_left'<|len_list x)
theorem G2{p:ew×List ew}(h:p.2≠[]):cx p=wm (cm " ") (colon p.1::p.2):=by
 $$(cx);rw[join_eq];let(a,ns):=p;cases ns with
 |nil=>$(absurd ρ h)
 | cons b r=>apply vd;show _=(colon a++cm " " ++ wm (cm " ") (b::r)).cps.toList;$$(colon);simp?[fS,show(cm ": ").cps.toList=(cm ":").cps.toList++(cm " ").cps.toList from by decide +kernel,show ow.cps.toList=[]from ρ];simp
theorem KI{c:Nat}(hc:c<97):∀n∈cB,c∉n.cps.toList:=by
 ext n a;simp?[cB,dV,eT,or_false]at a;let key:∀s:ew,s.cps.toList.all (λd=>am<|97<=d)=bd->c∉s.cps.toList:=λs h z=>by let:=ib.1 h c z;simp at this;$_
 let rfl||rfl||rfl||rfl:=a<;>$(key _ (by decide +kernel))
theorem RI{x:ew}(h:cy x=bd){c:Nat}(hc:c<58):c∉(colon x).cps.toList:=by
 $$(colon);rw[fS];ext z;let z||z:=el.1 z
 .$(wD h ∅ z)
 rw[show(cm ":").cps.toList=[58]from by decide +kernel]at z;simp at z;$_
def RowW(p:ew×List ew):Prop:=cy p.1=bd/\p.2≠[]/\p.2.length<=12/\∀n∈p.2,cy n=bd\/n∈cB
theorem RowW.free{p:ew×List ew}(h:RowW p){c:Nat}(b:c<58):∀n∈colon p.1::p.2,c∉n.cps.toList:=by
 ext n a;let rfl||a:=dV.1 a
 .$(RI h.1 b)
 let z||z:=h.2.2.2 n a
 .$(wD z ∅)
 $(KI ∅ n z)
theorem RowW.split{p:ew×List ew}(h:RowW p):Txt.split (cx p) (cm " ")=colon p.1::p.2:=by rw[G2 h.2.1,rW];$(uU 32 ⋯ λn a=>h.free ⋯ n a)
theorem RowW.line{p:ew×List ew}(h:RowW p):10∉(cx p).cps.toList:=by rw[G2 h.2.1,rW,oE];$(yh 10 32 ⋯ λq a=>?_);let(n,b,rfl):=a5.1 a;$(h.free ⋯ n b)
theorem bJ.tP{web:bb}(h:bJ web){p:ew×List ew}(a:p∈web):RowW (p.1,aK p.2):=by
 let r:=h.rg p a;let e:=(qy p.2).perm.length_eq;$({h.nm p a,λz=>by let z:aK p.2=[]:=z;rw[z]at e;simp at e;$_,by show(aK p.2).length<=12;rw[e];$(h.len a),λn b=>?_});let z||z:=(r.2.2 n<|tF.1 b).1
 .let(q,c,rfl):=a5.1 z;$(ι<|h.nm q c)
 $(τ z)
def bu(web:bb):bb:=(dh web).map λp=>(p.1,aK p.2)
theorem wF(web:bb):(bu web).length=web.length:=by$$(bu);rw[a8,xf]
theorem E6(web:bb):uS web (bu web):=by
 let pm:(dh web).Perm web:=gj _ _;$({?_,λz a=>?_})
 .$$(bu);rw[fm];$(pm.map (λp:ew×List ew=>p.1))
 let(p,b,rfl):=a5.1 a;$({p,ke.1 b,ρ,qy p.2})
theorem P1{l:List ew}(h:l.Nodup):aK (aK l)=aK l:=by let(A,B,e,r):=BU l;let:=Oq (A:=A) (B:=B)<|e ▸ h;rw[r,this,<-e,r]
theorem NK{web:bb}(h:bJ web):Txt.split (cb web) (cm "\n")=(bu web).map cx:=by
 let e:(dh web).map (λp=>cx (p.1,aK p.2))=(bu web).map cx:=by$$(bu);rw[fm];rfl
 $$(cb);rw[join_eq,BO,e];$(uU 10 (λz=>?_) λp a=>?_)
 .let z:bu web=[]:=sq.1 z;let:=wF web;rw[z]at this;let:=h.aY.1;simp at *;$_
 let(q,b,rfl):=a5.1 a;let(r,c,rfl):=a5.1 b;$((h.tP<|ke.1 c).line)
theorem Ha{web:bb}(h:bJ web):cb (bu web)=cb web:=by
 let nd:∀p∈dh web,p.2.Nodup:=λp d=>(h.rg p<|ke.1 d).2.1;let f:dh (dh web)=dh web:=by$$(dh);$(ac2<|uz (le:=λa b:ew×List ew=>cj a.1 b.1) (λa b c=>pP a.1 b.1 c.1) (λa b=>oy a.1 b.1) web)
 let e:dh (bu web)=bu web:=by$$(bu);rw[zY,f]
 let g:(bu web).map (λp=>cx (p.1,aK p.2))=(dh web).map λp=>cx (p.1,aK p.2):=by$$(bu);rw[fm];apply sH;ext p d;show cx (p.1,aK<|aK p.2)=_;rw[P1 (nd p d)]
 unfold cb;rw[e,g]
end
end
def vQ(f:SF):SF:=λZ=>match f Z with
 |some (.exc _ _)=>al
 |x=>x
theorem QT{X:Cx}{body:List zR}{h₀:aaY}{c:List aaY}{pos:q7}{f:SF}(h:∀pn a,cY (X.kL pn a) body f):cH X (.Try body (h₀::c) [] [] pos) (vQ f):=by
 let h':∀pn a,∃t,da (X.kL pn a) body t/\Eu (X.kL pn a) f t:=λpn a=>by let(t,p,q):=h pn a;$(⟨t,p,q⟩)
 $({_,Nv (tb:=λpn a=>adM<|h' pn a) (λpn a=>(aau<|h' pn a).1),λi ps Z j H l o D e S k=>?_});ext b;unfold vQ at e;let g:f Z=ac o/\∀C m,o≠.exc C m:=by
  cases z:f Z with
  |none=>rw[z]at e;$(nO e)
  |some x =>
   rw[z]at e;cases x with
   |exc C d=>$(nO e)
   |next d=>$$$$$$e;$({ρ,λ_ _ z=>by$$$z})
   |ret r d=>$$$$$$e;$({ρ,λ_ _ z=>by$$$z})
   |brk d=>$$$$$$e;$({ρ,λ_ _ z=>by$$$z})
   |cont d=>$$$$$$e;$({ρ,λ_ _ z=>by$$$z})
 $((aau<|h' (X.pn++b)<|zy X (h₀::c)<|SP X b D).2 i ps Z j H l o D g.1 S ?_);cases o with
 |exc C d=>$(absurd ρ (g.2 C d))
 |next d=>$k
 |ret r d=>$k
 |brk d=>$k
 |cont d=>$k
theorem L9{f:SF}{Z:DS}{Q:Out->Prop}(h:WS f Z λo=>(∀C a,o≠.exc C a)/\Q o):WS (vQ f) Z Q:=by
 let(o,e,n,q):=h;$({o,?_,q});$$(vQ);rw[e];cases o with
 |exc C d=>$(absurd ρ (n C d))
 |_=>rfl
section
open PySem.NumText
section
variable{P:hE}{w:iR}{K:e6}{mg:ew->Option bt}{base:k7}
theorem Rk{x:ew}(h:fI x)(b:x.length<=1000000):mf x:=by$({?_,b});rw[qo];ext a c;$(decide_eq_true<|h a<|qt.2 c)
def CA(fn:aJ):Prop:=∀p:ew×List ew,RowW p->(cx p).length<=200->p.1.length<=8->fn [.str (cx p)]=ac (.D<|pairD p)
theorem JN(T:Txt mg){f:cA}{b:gi}(F:ba K "read_ring" "read_ring" Bl f b):∃fn,aS P w K mg base aT 1 f b ["line"] (ay K fn)/\CA fn:=by
 $$$(bQ F D7 (n:=1) ρ ?C ?B)
 case C=>let nd:=D7.nd;$("h")
 clear T F;ext p a hl h8;let(_,hne,h12,_):=id a;let sp:=a.split;let lc:(colon p.1).length<=9:=by$$(colon);rw[hS,show(cm ":").length=1 from by decide +kernel];$_
 let c0:dJ (.L<|(colon p.1::p.2).map Dat.str) (.int 0)=ac (.str<|colon p.1):=uX (k:=0) ρ;let d:=CW (colon p.1::p.2);let e:=Pp p.1;generalize cx p=x at *;generalize colon p.1=c at *;$$$(bT ρ ?w);show WS _ [.D (.str x),.no] _;$(ao ?_);$(bc (Z2:=[.D (.str x),.O<|.L<|(c::p.2).map .str]) (uo (y:=x) (z:=cm " ") ρ (ae ρ ak) {by decide +kernel,∅}) (by rw[sp];rfl) ?_);$(au ?_);$(ao ?_);refine bY (r:=.D<|pairD p) (Z1:=[.D (.str x),.D<|.L<|(c::p.2).map .str]) (v_res<|hU (ae (ah (Kp (x:=c) (lo:=al) (hi:=ac<|-1) (dD ρ ρ ρ c0) ρ (QN ρ) ∅)<|congrArg Dat.str e)<|ae (kN<|gZ<|gQ ρ ρ d) ak) (by show 2<=a9;$$(a9);decide))<|fN ⟨_,ρ⟩
end
end
local macro_rules | `(tactic| walk_at "Z")=>Mq.fs "QT 4"
section
open PySem.NumText
section
variable{P:hE}{w:iR}{K:e6}{mg:ew->Option bt}{base:k7}
def GW(fn:aJ):Prop:=∀web:bb,bJ web->bZ web->fn [.str (cb web)]=ac (.D<|.L<|(bu web).map pairD)
theorem Kk(T:Txt mg){d g:aJ}(o:aN P w K mg base "read_ring" 1 (ay K d))(r:CA d)(u:aN P w K mg base "show_web" 5 (ay K g))(v:qD g){f:cA}{k:gi}(F:ba K "read_web" "read_web" zO f k):∃fn,aS P w K mg base aT 6 f k ["text"] (ay K fn)/\GW fn:=by
 $$$(bQ F En (n:=1) ρ ?D ?C)
 case D=>let nd:=En.nd;$("h")
 clear T F o u;ext web h hw;let b:=h.dQ;let l:=(E6 web).ok h hw;let m:=v (bu web) l.1 l.2;rw[Ha h]at m;let x:=NK h;let fu:=Hm h;let n3:∀p∈bu web,RowW p/\(cx p).length<=200/\p.1.length<=8:=by ext p a;let(q,i,rfl):=a5.1 a;$({h.tP<|ke.1 i,b.n3 q i,(b.n2 q i).1})
 let G:=wF web;let aY:=h.aY;let tl:(cb web).length<=2000:=by
  let e:(dh web).map (λp=>cx (p.1,aK p.2))=(bu web).map cx:=by$$(bu);rw[fm];rfl
  let:=xu (cm "\n") ((bu web).map cx) (B:=200) (by decide +kernel) λy j=>by let(p,a,rfl):=a5.1 j;$((n3 p a).2.1)
  rw[a8,G]at this;$$(cb);rw[e];let:=aaQ 201 aY.2;$_
 generalize cb web=t at *;generalize bu web=c at *;clear h hw;$$$(bT ρ ?w);show WS _ [.D (.str t),.no,.no] _;let I:qx (cS 0) (dm (fC<|.str<|cm "\n") gm) [.D (.str t),.no,.no]=ac (.O<|.L (c.map λp=>Dat.str<|cx p),[.D (.str t),.no,.no]):=by let:=uo (f:=cS 0) (fa:=dm (fC<|.str<|cm "\n") gm) (Z:=[.D (.str t),.no,.no]) (Z1:=[.D (.str t),.no,.no]) (Z2:=[.D (.str t),.no,.no]) (y:=t) (z:=cm "\n") ρ (ae ρ ak) {by decide +kernel,∅};rw[x,fm]at this;$this
 $$$(ao<|bc (Z2:=[.D (.str t),.O<|.L<|c.map pairD,.no]) (dy (enc:=λp=>Dat.str<|cx p) (xs:=c) (Z1:=[.D (.str t),.no,.no]) (Z2:=[.D (.str t),.no,.no]) (λp=>[.no,.D<|.str<|cx p]) pairD (bX<|kN I) ρ ?J ?L ?M ?N) ρ<|au ?O)
 case J=>$$(a9);$_
 case L=>ext y j Z hd;let rfl||(z,rfl):=hd<;>rfl
 case M=>ext p a;$(ah (aE (ae ρ ak)<|r p (n3 p a).1 (n3 p a).2.1 (n3 p a).2.2) ρ)
 case N=>ext y j;rfl
 $(ao<|L9<|ao<|bc (Z2:=[.D (.str t),.D<|.L<|c.map pairD,.D<|.str t]) (aE (ae ρ ak) m) ρ<|au<|bp ⟨λ_ _ z=>(by$$$z),au ?_⟩);$(ao (eA (Z1:=[.D (.str t),.D<|.L<|c.map pairD,.D<|.str t]) (bB<|aq ρ ρ<|ne_self fu) (λh=>(by$$$h)) λ_=>bp<|au ?_));$(ao<|bY ρ<|fN ⟨_,ρ⟩)
end
end
section
open PySem.NumText
section
variable{P:hE}{w:iR}{K:e6}{mg:ew->Option bt}{base:k7}
variable{rs:Fl}
theorem HB{a b:List Int}(h:a.Perm b)(n:a≠[]):fP a=fP b:=by let c:b≠[]:=λz=>n (by rw[z]at h;$h.eq_nil);$(ae1 (o5<|h.mem_iff.1<|oR n)<|o5<|h.mem_iff.2<|oR c)
theorem aQ.perm{b:Fl}(F:aQ rs)(p:b.Perm rs):aQ b where
 ne:=λe=>F.ne (by rw[e]at p;$p.symm.eq_nil)
 aY:=by rw[p.length_eq];$F.aY
 nm:=λx hx=>F.nm x<|p.mem_iff.1 hx
 row:=λx hx=>F.row x<|p.mem_iff.1 hx
 nd:=(p.map (·.1)).nodup_iff.2 F.nd
 ap:=p.symm.pairwise F.ap λ{x y} a=>Apart.symm a
 ar:=by let c:b≠[]:=λe=>F.ne (by rw[e]at p;$p.symm.eq_nil);let d:cI b=cI rs:=HB (p.map _) (by$$$$c);let f:cz b=cz rs:=HB (p.map _) (by$$$$c);rw[d,f,<-F.ar];$(Fk<|p.map _)
theorem fF.perm{a:Fl}(h:fF rs)(p:a.Perm rs):fF a:={λx hx=>h.tx x<|p.mem_iff.1 hx,λx hx=>h.nu x<|p.mem_iff.1 hx,by rw[p.length_eq];$h.aY}
theorem aQ.large(F:aQ rs){c:Int}(hc:1<=c):aQ (rs.map λy=>(y.1,gO c y.2)) where
 ne:=λe=>F.ne<|sq.1 e
 aY:=by rw[a8];$F.aY
 nm:=λx hx=>by let(y,d,rfl):=a5.1 hx;$(F.nm y d)
 row:=λx hx=>by
  let(y,d,rfl):=a5.1 hx;let(f,g,k,n):=F.row y d;let c0:0<c:=∅
  $({afe ∅ f,ac' g c0,afe ∅ k,ac' n c0})
 nd:=by rw[L3];$F.nd
 ap:=F.RE λx y a=>by
  let c0:0<=c:=∅
  let m:∀{i j:Int},i<=j->c*i<=c*j:=λh=>acM h c0;unfold Apart gO at *;dsimp;let a||a||a||a:=a
  .$(ι<|m a)
  .$(τ<|ι<|m a)
  .$(τ<|τ<|ι<|m a)
  $(τ<|τ<|τ<|m a)
 ar:=by
  let o:rs.map (λx=>x.2.r)≠[]:=λe=>F.ne<|sq.1 e;let p:rs.map (λx=>x.2.t)≠[]:=λe=>F.ne<|sq.1 e;let q:cI (rs.map λy=>(y.1,gO c y.2))=c*cI rs:=by let:=Cr o (c:=c) ∅;rw[fm]at this;$$(cI);rw[<-this,fm];rfl
  let s:cz (rs.map λy=>(y.1,gO c y.2))=c*cz rs:=by let:=Cr p (c:=c) ∅;rw[fm]at this;$$(cz);rw[<-this,fm];rfl
  let ar:=F.ar;rw[q,s];let u:nj (rs.map λy=>(y.1,gO c y.2))=(c*c)*nj rs:=by$$(nj);rw[<-Dp,fm];$(K9 λx _=>?_);show(c*x.2.r-c*x.2.l)*(c*x.2.t-c*x.2.b)=c*c*((x.2.r-x.2.l)*(x.2.t-x.2.b));grind
  rw[u,ar];grind
theorem LS(rs:Fl):cF (cF rs)=cF rs:=by$$(cF);$(ac2<|uz (le:=λa b:ew×Ob=>cj a.1 b.1) (λa b c=>pP a.1 b.1 c.1) (λa b=>oy a.1 b.1) rs)
theorem Cz(rs:Fl):cJ (cF rs)=cJ rs:=by$$(cJ);rw[LS]
def Il(fn:aJ):Prop:=∀rs:Fl,aQ rs->fF rs->(∀x∈rs,fw x)->fn [.str (cJ rs)]=ac (.D<|aC<|cF rs)
theorem U2(T:Txt mg){d e g:aJ}(u:aN P w K mg base "read_row" 2 (ay K d))(v:GO d)(D:aN P w K mg base "is_any_floor" 3 (ay K e))(G:GK e)(I:aN P w K mg base "show_floor" 1 (ay K g))(J:tD g){f:cA}{l:gi}(F:ba K "read_floor" "read_floor" Bo f l):∃fn,aS P w K mg base aT 4 f l ["text"] (ay K fn)/\Il fn:=by
 $$$(bQ F HS (n:=1) ρ ?L ?C)
 case L=>ext cdv A outer s H E m;let nd:=HS.nd;$$$T;let hr1:bS 2 _:=m.mono ∅;let hr2:bS 1 _:=m.mono ∅;$("S")
 clear T F u D I;ext rs F ok nu;let pm:=pd rs;let c:=F.perm pm;let i:=ok.perm pm;let b:∀x∈cF rs,fw x:=λx hx=>nu x<|pm.mem_iff.1 hx;let o:=G (cF rs) i;rw[(JZ _).2 c]at o;let q:=J (cF rs) c b;rw[Cz]at q;let M:=MI F;let fu:=Gs F;let aY:=c.aY;let N:∀x∈cF rs,d [.str (dk x)]=ac (.D<|az x):=λx hx=>by let r:=c.row x hx;let n:=b x hx;let z:=c.nm x hx;rw[<-Qd z {r.1,r.2.2.1,∅,∅} n];$(v _<|Rk ?_<|m3 (sJ n) ⋯);let bl:fI (cm " "):=kP (by decide +kernel);$$(dk);$(dI (dI (dI (dI (dI (dI (dI (dI (dI (kP (by decide +kernel))<|uN<|iF z) bl)<|lG r.1) bl)<|lG r.2.2.1) bl)<|lG ∅) bl)<|lG ∅)
 let tl:(cJ rs).length<=4000:=by
  let:=xu (cm "\n") ((cF rs).map dk) (B:=300) (by decide +kernel) λy j=>by let(p,k,rfl):=a5.1 j;$(sJ<|b p k)
  rw[a8]at this;$$(cJ);let:=aaQ 301 aY;$_
 generalize cJ rs=t at *;generalize cF rs=a at *;clear F ok nu pm c i b;$$$(bT ρ ?w);show WS _ [.D (.str t),.no] _;let O:qx (cS 0) (dm (fC<|.str<|cm "\n") gm) [.D (.str t),.no]=ac (.O<|.L (a.map λp=>Dat.str<|dk p),[.D (.str t),.no]):=by let:=uo (f:=cS 0) (fa:=dm (fC<|.str<|cm "\n") gm) (Z:=[.D (.str t),.no]) (Z1:=[.D (.str t),.no]) (Z2:=[.D (.str t),.no]) (y:=t) (z:=cm "\n") ρ (ae ρ ak) {by decide +kernel,∅};rw[M,fm]at this;$this
 $$$(ao<|bc (Z2:=[.D (.str t),.O<|aC a]) (dy (enc:=λp=>Dat.str<|dk p) (xs:=a) (Z1:=[.D (.str t),.no]) (Z2:=[.D (.str t),.no]) (λp=>[.no,.D<|.str<|dk p]) az (bX<|kN O) ρ ?Q ?R ?S ?U) ρ<|au ?V)
 case Q=>$$(a9);$_
 case R=>ext y j Z hd;let rfl||(z,rfl):=hd<;>rfl
 case S=>ext p k;$(ah (aE (ae ρ ak)<|N p k) ρ)
 case U=>ext y j;rfl
 $(ao (eA (Z1:=[.D (.str t),.D<|aC a]) (gE<|eC (ah (aE (ae ρ ak) o) ρ) ρ) (λh=>(by$$$h)) λ_=>bp<|au ?_));$(ao (eA (Z1:=[.D (.str t),.D<|aC a]) (bB<|aq (ah (aE (ae ρ ak) q) ρ) ρ<|ne_self fu) (λh=>(by$$$h)) λ_=>bp<|au ?_));$(ao<|bY ρ<|fN ⟨_,ρ⟩)
variable{K:e6}{H Hi H':Hp}{H0:Hp×Hp}{ps:Nat->Option cA}{Z Z':DS}{σ σ':St}
theorem xZ(S:SR K H0 ps Z σ H Hi)(up:∀b o,H b=ac o->H' b=ac o)(len:Z'.length=σ'.length)(f:∀(i:Nat) (s:Slot),Z'[i]?=ac s->s=.no\/(Z[i]?=ac s/\σ'[i]?=σ[i]?)):SR K H0 ps Z' σ' H' Hi:=by
 let k:∀{p c},cC K H Hi p c->cC K H' Hi p c:=λ{p c} a=>by let((o,e),n):=a.some;$(a.keeps ((up p o e).trans e.symm) (af.refl _) n)
 let m:∀{i:Nat}{c:Dat},(Z'[i]?=ac (.O c)\/Z'[i]?=ac (.io c))->(Z[i]?=ac (.O c)\/Z[i]?=ac (.io c))/\σ'[i]?=σ[i]?:=λ{i c} h=>by
  let h||h:=h
  .let z||(z,q):=f i _ h
   .$$$z
   $({ι z,q})
  let z||(z,q):=f i _ h
  .$$$z
  $({τ z,q})
 $({λb o e=>up b o<|S.sub b o e,λb o e l=>up b o<|S.keep b o e l,λp l z=>?_,λi d e=>?_,λi c e=>?_,λi c e=>?_,λi j c r p t u v x=>?_,len,S.nw})
 .cases e:H p with
  |none=>$(S.eF p l e)
  |some o=>rw[up p o e]at z;$$$z
 .let z||(z,q):=f i _ e
  .$$$z
  rw[q];$(S.D i d z)
 .let z||(z,q):=f i _ e
  .$$$z
  let(p,a,b,g,y):=S.O i c z;$({p,q.trans a,k b,g,y})
 .let z||(z,q):=f i _ e
  .$$$z
  let(p,a,b,g):=S.io i c z;$({p,q.trans a,k b,g})
 let(A,B):=m t;let(C,D):=m u;$(S.ne i j c r p A C (B.symm.trans v)<|D.symm.trans x)
structure Got (K:e6) (H Hn H2:Hp) (ds:List Dat) (p:cA) (vs:List V):Prop where
 up:∀b o,H b=ac o->H2 b=ac o
 sub:af Hn H2
 rd:Rd Hn p (.L vs)
 rs:aw K Hn ds vs
 new:∀b xs,Rd Hn b (.L xs)->H b=al
end
theorem Ic{X:Cx}{te:TE}{tc:TT}{fe:EF}{fc:BF}(y:vO X fe te)(A:uQ X fc tc){B:Hp×Hp}{ps:Nat->Option cA}{Z:DS}{g:St}{H f:Hp}(S:SR X.K B ps Z g H f){j:Nat}{ds:List Dat}{os0 os:List (Option Dat)}{C Z1:DS}
 (D:os0.length=Z.length)(E:os.length=Z.length)(F:∀(k:Nat) d,os0[k]?=ac (ac d)->(∃t,d=.str t)/\Z[k]?=ac (.D d))(G:∀(k:Nat) d,os[k]?=ac (ac d)->(k=j/\d=.L ds)\/(k≠j/\Z[k]?=ac (.D d)))
 (I:fe (os0.map tO)=ac (.D<|.L ds,C))(J:fc (os.map tO)=ac (false,Z1))(L:j<g.length){Q:V->Bool->Hp->Prop}(M:∀p vs m N,Got X.K H N m ds p vs->Q (.ref p) false m) :
  te g H λx h=>tc (g.set j<|ac x) h (Q x):=by
 let nl:∀b:cA,¬fY (λ_=>al) b:=λb ⟨_,z⟩=>by$$$z
 let O:wc X.K (λ_=>al) os0 g:={D.trans S.len,λk d e=>by let((t,rfl),q):=F k d e;let(v,z,r):=S.D k _ q;$(⟨v,z,r⟩)}
 $(y (H,λ_=>al) (λ_=>al) _ g H (λ_=>al) _ _ _ I (O.sr λb o e=>nO e) λv h c l s1 P=>?_);let(p,vs,rfl,rd,rs):=P;let up1:∀b o,H b=ac o->h b=ac o:=λb o e=>l.keep b o e<|nl b;let u:∀b xs,Rd c b (.L xs)->H b=al:=λb xs r=>by
  let r||(o,r):=r
  .let z||z||(_,z):=l.nw b _ r
   .$(nO z)
   .$z
   $$$z
  let z||z||(_,z):=l.nw b _ r
  .$(nO z)
  .$z
  $$$z
 let' i:Hp:=λb=>match f b with|some o=>ac o|none=>c b
 let sA:af f i:=λb o e=>by show(match f b with|some o=>ac o|none=>c b)=ac o;rw[e]
 let sB:af c i:=λb o e=>by
  show(match f b with|some o=>ac o|none=>c b)=ac o;cases z:f b with
  |none=>$e
  |some s=>let a:=up1 b s<|S.sub b s z;rw[l.sub b o e]at a;$a.symm
 let R:af i h:=λb o e=>by
  let e:(match f b with|some o=>ac o|none=>c b)=ac o:=e;cases z:f b with
  |none=>rw[z]at e;$(l.sub b o e)
  |some s=>rw[z]at e;$$$$$$e;$(up1 b _<|S.sub b _ z)
 let T:wc X.K i os (g.set j<|ac<|.ref p):=⟨by rw[kx,E,S.len],λk d e=>by
  let(rfl,rfl)||(n,q):=G k d e
  .$({.ref p,hY L,p,vs,ρ,Rd.mono sB rd,aw.mono sB rs})
  let(v,z,r):=S.D k d q;$({v,by rw[g0 (Ne.symm n)];$z,r.mono sA})⟩
 $(A (h,i) (λ_=>al) _ _ h i false Z1 (Q<|.ref p) J (T.sr R) λm Hi2 w U=>?_);$(M p vs m c {λb o e=>w.keep b o (up1 b o e)<|nl b,λb o e=>w.sub b o<|U b o<|sB b o e,rd,rs,u})
end
def xc:zR->List zR
 |.For _ _ b _ _=>b
 |_=>[]
def wU:zR->List zR
 |.If _ b _ _=>b
 |_=>[]
def uf:zR->fA
 |.If c _ _ _=>c
 |_=>.Constant .none 0 {0,0,0,0}
def wo:zR->fA
 |.Assign _ e _=>e
 |_=>.Constant .none 0 {0,0,0,0}
def xm(i:Nat):Stmt:=(jD fX).getD i (.Pass {0,0,0,0})
def bK(i:Nat):Stmt:=(xc<|xm 0).getD i (.Pass {0,0,0,0})
abbrev LX(P:hE)(w:iR)(K:e6)(mg:ew->Option bt)(base:k7)(f:cA)(cdv:bt)(A:nL)(outer:List Env)(s:dq)(H:Hp)(E:XK):Cx:=(jq aT P w K mg base ["_law_script","_law_cell","_law_purse_here","_law_web_here","_law_due","_law_text","_law_found","_law_room","_law_names_here","_law_rows_here","_law_other","_law_told","_law_great"] "law" (aI fX) f cdv A outer s H E).ku
theorem RX:xc (xm 0)=[bK 0,bK 1,bK 2,bK 3]++(bK 4::bK 5::bK 6::bK 7::([bK 8,bK 9]++(bK 10::bK 11::bK 12::[bK 13,bK 14,bK 15]))):=ρ
section
variable{P:hE}{w:iR}{K:e6}{mg:ew->Option bt}{base:k7}
variable{f:cA}{cdv:bt}{A:nL}{outer:List Env}{s:dq}{H:Hp}{E:XK}
abbrev yU(K:e6):TS:=Ds (E4 K<|lV 6) (C3 K 2<|AW (kX 7)<|AW (kX 8) Et)<|uL<|tJ K "list" xb<|lV 8
abbrev zX(K:e6):TS:=uL<|tJ K "list" xb<|lV 6
abbrev xF(K:e6):TS:=uL<|tJ K "list" Dg<|lV 11
theorem K2:PS (LX P w K mg base f cdv A outer s H E) (bK 6) (yU K):=by let nd:=gq.nd;$(ET ab9 ρ (Gw<|pv 6) (Ip ρ (xK (yz (i:=7) nd ρ<|abW ρ)<|xK (yz (i:=8) nd ρ<|abW ρ) By) ρ ρ)<|LH<|vA (yH ql abx acV B0 (pv 8) ρ ρ) ρ)
theorem Ku:PS (LX P w K mg base f cdv A outer s H E) (bK 7) (zX K):=vA (yH ql abx acV B0 (pv 6) ρ ρ) ρ
theorem IY:PS (LX P w K mg base f cdv A outer s H E) (bK 12) (xF K):=vA (yH ql ad9 PySem.F.type_list_pop JE (pv 11) ρ ρ) ρ
theorem xW{xs:List V}(o:ua)(x:HO):HO.L xs≠.aZ o x:=by ext z;$$$z
theorem Qs{xs:List V}(o:ua)(x:HO):HO.U xs≠.aZ o x:=by ext z;$$$z
theorem NV{a:Hp}{b:cA}{xs ys:List V}(h:Rd a b (.L xs))(h':Rd a b (.L ys)):xs=ys:=by
 cases Rd.one h h' xW xW;rfl
theorem xp{a:Hp}{b:cA}{xs ys:List V}(h:Rd a b (.L xs))(h':Rd a b (.U ys)):False:=by
 cases Rd.one h h' xW Qs
theorem Rq{D:Ends}{c:St}{d:Hp}{p4:cA}{vs4:List V}{Ring:cA->Prop}(r:c.length=13)(t:c[6]?=ac (ac<|.ref p4))(u:d p4=ac (.L vs4))
 (items:∀(i:Nat) v,vs4[i]?=ac v->∃q a x xs,v=.ref q/\bj K d q [.str x,.ref a]/\d a=ac (.L xs)/\Ring a)(I:¬Ring p4)(J:∀q xs,Rd d q (.U xs)->¬Ring q)
 (L:∀k y,k.length=13->(∀j,j≠7->j≠8->k[j]?=c[j]?)->(∀b,¬Ring b->y b=d b)->D.nx k y):yU K D c d:=by
 $({_,t,p4,ρ,{vs4,bV.of u},I0 (xs:=vs4) (λi g H=>g.length=13/\(∀j,j≠7->j≠8->g[j]?=c[j]?)/\(∀b,¬Ring b->H b=d b)/\(∀b xs,d b=ac (.L xs)->∃ys,H b=ac (.L ys))) {r,λ_ _ _=>rfl,λ_ _=>rfl,λb xs e=>⟨xs,e⟩} ?_ ?_ ?_})
 .ext i g H _ ⟨_,_,h,_⟩;$(bV.of (by rw[h p4 I];$u))
 .ext i v g H M ⟨m,p,n,B⟩;let(q,a,x,xs,rfl,N,O,ra):=items i v M;let C:bj K H q [.str x,.ref a]:=by
   let z||z:=N
   .let:=n q<|J q _ z;$(ι ?_);unfold Rd at z ⊢;rw[this];$z
   $(τ z)
  let(ys,o):=B a xs O;$({q,[.str x,.ref a],ρ,C,ρ,.str x,[.ref a],ρ,.ref a,[],ρ,ρ,.ref a,?_,ι {ρ,ys,bV.of o},a,ys,ρ,ρ,o,?_,?_,?_,?_})
  .rw[hY (by rw[kx,m];decide)]
  .rw[kx,kx];$m
  .ext j F G;rw[g0 (Ne.symm G),g0<|Ne.symm F];$(p j F G)
  .ext b l;rw[aA (λz=>l (by rw[z];$ra))];$(n b l)
  ext b Q e;ext(l:b=a)
  .$$l;$({_,bw})
  rw[aA l];$(B b Q e)
 ext g H ⟨m,p,n,_⟩;$(L g H m p n)
theorem OI{D:Ends}{a:St}{H:Hp}{p4:cA}{vs4:List V}(c:a[6]?=ac (ac<|.ref p4))(d:H p4=ac (.L vs4))(g:∀e,(∀b,b≠p4->e b=H b)->D.nx a e):zX K D a H :=
 {_,c,ι {ρ,vs4,bV.of d},p4,vs4,ρ,ρ,d,g _ λb h=>aA h}
theorem R'{D:Ends}{a:St}{H:Hp}{p4:cA}{vs4:List V}(c:a[11]?=ac (ac<|.ref p4))(d:H p4=ac (.L vs4))(e:vs4≠[])(h:∀g,(∀b,b≠p4->g b=H b)->D.nx a g):xF K D a H:=by obtain⟨y,i⟩:∃y,vs4[vs4.length-1]?=ac y:={_,b8 (by let:=ir.2 e;$_)};$({_,c,ι {ρ,vs4,bV.of d},p4,vs4,y,ρ,ρ,d,i,h _ λb j=>aA j})
open Classical in
def kO(M:cA->Prop)(H:Hp):Hp:=λb=>if M b then(match H b with|some (.aZ o<|.L xs)=>ac (.L xs)|x=>x)else H b
theorem GR{fK:Hp}{M:cA->Prop}{H:Hp}(h:∀b,M b->∀o u,fK b≠ac (.aZ o u)):jx fK H (kO M H):=by
 ext b;$$(kO);ext(a:M b)
 .rw[if_pos a];split
  .ext1 o xs e;$(τ {h b a,o,xs,e,ρ})
  $(ι ρ)
 rw[if_neg a];$(ι ρ)
theorem yG{M:cA->Prop}{H:Hp}{b:cA}(h:¬M b):kO M H b=H b:=if_neg h
theorem wq{M:cA->Prop}{H:Hp}{b:cA}{xs:List V}(h:M b)(r:Rd H b (.L xs)):kO M H b=ac (.L xs):=by$$(kO);rw[if_pos h];let r||(o,r):=r<;>rw[r]
variable{f:cA}{cdv:bt}{A:nL}{outer:List Env}{s:dq}{Hx:Hp}{E:XK}
theorem vN{Z:DS}{k i:Nat}{s:Slot}(h:(Z.set k .no)[i]?=ac s):s=.no\/(i≠k/\Z[i]?=ac s):=by
 ext(e:i=k)
 .$$e;rw[List.getElem?_set]at h;$$$$$h
  .$$$$$h
   .$(ι (sO h).symm)
   $(nO h)
  ext1 z;$(absurd ρ z)
 rw[g0 (Ne.symm e)]at h;$(τ ⟨e,h⟩)
theorem E7{b:Hp}{c:bb}{vs:List V}(h:aw K b (c.map pairD) vs)(g:∀p∈c,p.2≠[]){i:Nat}{v:V}(e:vs[i]?=ac v):∃q a x nm,v=.ref q/\bj K b q [.str x,.ref a]/\Rd b a (.L<|nm.map V.str)/\nm≠[]:=by let(d,j,r):=aw.CP h e;let(y,k,rfl):=a5.1<|eK j;let(q,ws,rfl,l,m,r1,rfl,n,v2,o,rfl,(a,us,rfl,rd,t),u):=r;cases(show m=.str y.1 from n);cases(show o=[]from u);$({q,a,y.1,y.2,ρ,l,(Ef t) ▸ rd,g y k})
theorem TR{ns:List ew}{vs:List V}(b:ns≠[])(e:vs=ns.map V.str){v:V}{q:cA}(c:vs[0]?=ac v)(d:v=.ref q):False:=by
 $$e;cases ns with
 |nil=>$(b ρ)
 |cons a l=>$$$$$$c;$$$d
theorem RA{D:Ends}{t:St}{H h y:Hp}{fK:Hp}{p:cA}{vs:List V}{k:bb}(G:Got K H y h (k.map pairD) p vs)(m:∀q∈k,q.2≠[])(Q:k≠[])(R:t.length=13)(fz:∀b,H b=al->∀o u,fK b≠ac (.aZ o u)){u:TS}
 (B:∀c l,c.length=13->(∀j,j≠6->j≠7->j≠8->c[j]?=t[j]?)->(∀b o,H b=ac o->l b=ac o)->u D c l) :
  ∃C,jx fK h C/\wL (yU K) (wL (zX K) u) D (t.set 6<|ac<|.ref p) C:=by
 let' Ring:cA->Prop:=λb=>∃nm:List ew,nm≠[]/\Rd y b (.L<|nm.map V.str);let' fT:cA->Prop:=λb=>b=p\/Ring b;let lv:vs.length=k.length:=by rw[aw.length G.rs,a8]
 let lo:=ir.2 Q;obtain⟨F,n⟩:∃F,vs[0]?=ac F:={_,b8 ∅};let(q4,a4,x4,n4,rfl,sq4,_,_):=E7 G.rs m n;let I:¬Ring p:=λ⟨nm,d,r⟩=>TR d (NV G.rd r) n ρ;let J:∀b xs,Rd y b (.U xs)->¬fT b:=by
  ext b xs rt (rfl|⟨nm,d,L⟩)
  .$(xp G.rd rt)
  $(xp L rt)
 let g:∀b,fT b->H b=al:=by
  ext b (rfl|⟨nm,_,r⟩)
  .$(G.new _ _ G.rd)
  $(G.new _ _ r)
 $({kO fT h,GR λb S=>fz b<|g b S,?_});let M:kO fT h p=ac (.L vs):=wq (ι ρ)<|Rd.mono G.sub G.rd;$(Rq (Ring:=Ring) (by rw[kx];$R) (hY ∅) M ?items I ?T ?B)
 case items =>
  ext i v U;let(q,a,x,nm,rfl,W,rd,d):=E7 G.rs m U;$({q,a,x,nm.map V.str,ρ,?_,wq (τ ⟨nm,d,rd⟩)<|Rd.mono G.sub rd,nm,d,rd});let z||z:=W
  .$(ι ?_);let:=Rd.mono G.sub z;unfold Rd at this ⊢;rw[yG (J q _ z)];$this
  $(τ z)
 case T=>ext q xs rt ⟨nm,d,rd⟩;$(xp (Rd.of<|wq (τ ⟨nm,d,rd⟩)<|Rd.mono G.sub rd) rt)
 ext c C X N O;$(OI (p4:=p) (vs4:=vs) ((N 6 ⋯ ⋯).trans (hY ∅)) ((O p I).trans M) λl Y=>?_);$(B c l X (λj Z h7 h8=>by rw[N j h7 h8,g0<|Ne.symm Z]) λb o e=>?_);let nm:¬fT b:=λz=>by rw[g b z]at e;$(nO e)
 rw[Y b λz=>nm<|ι z,O b λz=>nm<|τ z,yG nm];$(G.up b o e)
theorem VI{D:Ends}{g:St}{H c j:Hp}{fK:Hp}{p:cA}{vs:List V}{ds:List Dat}(G:Got K H j c ds p vs)(k:ds≠[])(hl:g.length=13)(fz:∀b,H b=al->∀o u,fK b≠ac (.aZ o u)){u:TS}
 (l:∀d,(∀b o,H b=ac o->d b=ac o)->u D (g.set 11<|ac<|.ref p) d) :
  ∃i,jx fK c i/\wL (xF K) u D (g.set 11<|ac<|.ref p) i:=by
 let' fT:cA->Prop:=λb=>b=p;let a:∀b,fT b->H b=al:=by ext b h;rw[show b=p from h];$(G.new _ _ G.rd)
 let m:vs≠[]:=λz=>k<|aaq.1 (by rw[<-aw.length G.rs,z];rfl);$({kO fT c,GR λb h=>fz b<|a b h,?_});let n:kO fT c p=ac (.L vs):=wq ρ<|Rd.mono G.sub G.rd;$(R' (p4:=p) (vs4:=vs) (hY ∅) n m λd q=>l d λb o e=>?_);let nm:¬fT b:=λz=>by rw[a b z]at e;$(nO e)
 rw[q b nm,yG nm];$(G.up b o e)
variable{f:cA}{cdv:bt}{A:nL}{outer:List Env}{s:dq}{Hx:Hp}{E:XK}
structure jZ (P:hE) (w:iR) (K:e6) (mg:ew->Option bt) (base:k7) (fnW fnS fnT fnR fnF fnX:aJ):Prop where
 qW:aN P w K mg base "read_web" 6 (ay K fnW)
 sW:GW fnW
 qS:aN P w K mg base "_law_same" 5 (ay K fnS)
 sS:AY (dF<|dF<|dF gu) fnS
 qT:aN P w K mg base "show_web" 5 (ay K fnT)
 sT:qD fnT
 qR:aN P w K mg base "read_floor" 4 (ay K fnR)
 sR:Il fnR
 qF:aN P w K mg base "show_floor" 1 (ay K fnF)
 sF:tD fnF
 qX:aN P w K mg base "_law_floor_text" 1 (ay K fnX)
 sX:tD fnX
variable{fnW fnS fnT fnR fnF fnX:aJ}
theorem OW{l:List ew}(h:∀n∈l,bC n)(a:l.length<=100):dF gu (.L<|l.map .str)=bd:=by show((l.map Dat.str).all gu&&am ((l.map Dat.str).length<=100))=bd;rw[ec,decide_eq_true_eq,a8,ib];$({λd hd=>?_,a});let(z,b,rfl):=a5.1 hd;$((h z b).ok)
theorem Fd{web:bb}(h:bJ web):dF (dF<|dF gu) (.L<|(bu web).map pairD)=bd:=by show(((bu web).map pairD).all (dF<|dF gu)&&am (((bu web).map pairD).length<=100))=bd;let aY:=h.aY;rw[ec,decide_eq_true_eq,a8,wF,ib];$({λd hd=>?_,∅});let(y,b,rfl):=a5.1 hd;let(z,a,rfl):=a5.1 b;let a:=ke.1 a;let r:=h.tP a;let c:dF gu (.L<|(aK z.2).map .str)=bd:=OW (λn e=>h.txt ((h.rg z a).2.2 n (tF.1 e)).1)<|m3 r.2.2.1 ⋯;show([Dat.str z.1,.L<|(aK z.2).map .str].all (dF gu)&&am (2<=100))=bd;rw[ec,aaN,aaN,afs,c];$({by simp?[ab0];$((iF<|h.nm z a).ok),ρ})
theorem yg{rs:Fl}(F:aQ rs):dF (dF<|dF gu) (aC rs)=bd:=by show((rs.map az).all (dF<|dF gu)&&am ((rs.map az).length<=100))=bd;let aY:=F.aY;rw[ec,decide_eq_true_eq,a8,ib];$({λd hd=>?_,∅});let(y,a,rfl):=a5.1 hd;show([Dat.str y.1,.int y.2.l,.int y.2.b,.int y.2.r,.int y.2.t].all (dF gu)&&am (5<=100))=bd;simp?[aaN,afs,ab0,ec];$({{(iF<|F.nm y a).ok,ρ,ρ,ρ,ρ},ρ})
theorem PL(Q:jZ P w K mg base fnW fnS fnT fnR fnF fnX)(hr:bS 7 (A.deeper<|HU "law" (aI fX) s.heap.objs.size f cdv)):∃te fe,PE (LX P w K mg base f cdv A outer s Hx E) (wo<|bK 4) te/\vO (LX P w K mg base f cdv A outer s Hx E) fe te /\
  ∀web,bJ web->bZ web->fe [.no,.no,.no,.no,.no,.D<|.str<|cb web,.no,.no,.no,.no,.no,.no,.no]=ac (.D<|.L<|(bu web).map pairD,[.no,.no,.no,.no,.no,.D<|.str<|cb web,.no,.no,.no,.no,.no,.no,.no]):=by
 let nd:=gq.nd;let(qW,sW,qS,sS,qT,sT,qR,sR,qF,sF,qX,sX):=Q;let key:∃fe,DE (LX P w K mg base f cdv A outer s Hx E) (wo<|bK 4) fe/\∀web,bJ web->bZ web->fe [.no,.no,.no,.no,.no,.D<|.str<|cb web,.no,.no,.no,.no,.no,.no,.no]=ac (.D<|.L<|(bu web).map pairD,[.no,.no,.no,.no,.no,.D<|.str<|cb web,.no,.no,.no,.no,.no,.no,.no]):=by
  $$$({_,?B,?C})
  case B=>$("E")
  ext web h hw;$(aE (ae ρ ak)<|sW web h hw)
 let(fe,(te,p,q),h):=key;$(⟨te,fe,p,q,h⟩)
theorem MU(Q:jZ P w K mg base fnW fnS fnT fnR fnF fnX)(hr:bS 7 (A.deeper<|HU "law" (aI fX) s.heap.objs.size f cdv)):∃tc fc,PT (LX P w K mg base f cdv A outer s Hx E) (uf<|bK 5) tc/\uQ (LX P w K mg base f cdv A outer s Hx E) fc tc /\
  ∀web,bJ web->bZ web->∃Z1,fc [.no,.no,.no,.no,.D<|.L<|(bu web).map pairD,.D<|.str<|cb web,.D<|.L<|(bu web).map pairD,.no,.no,.no,.no,.no,.no]=ac (false,Z1):=by
 let nd:=gq.nd;let(qW,sW,qS,sS,qT,sT,qR,sR,qF,sF,qX,sX):=Q;let key:∃fc,DT (LX P w K mg base f cdv A outer s Hx E) (uf<|bK 5) fc/\∀web,bJ web->bZ web->∃Z1,fc [.no,.no,.no,.no,.D<|.L<|(bu web).map pairD,.D<|.str<|cb web,.D<|.L<|(bu web).map pairD,.no,.no,.no,.no,.no,.no]=ac (false,Z1):=by
  $$$({_,?B,?C})
  case B=>$("T")
  ext web h hw;let a:=(E6 web).ok h hw;let b:=sT (bu web) a.1 a.2;rw[Ha h]at b;let c:=sS _<|Fd h;let fu:=Hm h;$({_,tf (gE<|eC (ah (aE (ae ρ<|ae ρ ak) c) ρ) ρ)<|bB<|aq (ah (aE (ae ρ ak) b) ρ) ρ<|ne_self fu})
 let(fc,(tc,p,q),h):=key;$(⟨tc,fc,p,q,h⟩)
theorem OC(Q:jZ P w K mg base fnW fnS fnT fnR fnF fnX)(a:bS 7 (A.deeper<|HU "law" (aI fX) s.heap.objs.size f cdv)):∃te fe,PE (LX P w K mg base f cdv A outer s Hx E) (wo<|bK 10) te/\vO (LX P w K mg base f cdv A outer s Hx E) fe te /\
  ∀rs,aQ rs->fF rs->(∀x∈rs,fw x)->fe [.no,.no,.no,.no,.no,.no,.no,.no,.no,.no,.D<|.str<|cJ rs,.no,.no]=ac (.D<|aC<|cF rs,[.no,.no,.no,.no,.no,.no,.no,.no,.no,.no,.D<|.str<|cJ rs,.no,.no]):=by
 let nd:=gq.nd;let(qW,sW,qS,sS,qT,sT,qR,sR,qF,sF,qX,sX):=Q;let key:∃fe,DE (LX P w K mg base f cdv A outer s Hx E) (wo<|bK 10) fe/\∀rs,aQ rs->fF rs->(∀x∈rs,fw x)->fe [.no,.no,.no,.no,.no,.no,.no,.no,.no,.no,.D<|.str<|cJ rs,.no,.no]=ac (.D<|aC<|cF rs,[.no,.no,.no,.no,.no,.no,.no,.no,.no,.no,.D<|.str<|cJ rs,.no,.no]):=by
  let hr1:bS 5 _:=a.mono ∅;$$$({_,?B,?C})
  case B=>$("E")
  ext rs F ok nu;$(aE (ae ρ ak)<|sR rs F ok nu)
 let(fe,(te,p,q),h):=key;$(⟨te,fe,p,q,h⟩)
theorem Lb(T:Txt mg)(Q:jZ P w K mg base fnW fnS fnT fnR fnF fnX)(hr:bS 7 (A.deeper<|HU "law" (aI fX) s.heap.objs.size f cdv)):∃tc fc,PT (LX P w K mg base f cdv A outer s Hx E) (uf<|bK 11) tc/\uQ (LX P w K mg base f cdv A outer s Hx E) fc tc /\
  ∀web rs,bJ web->bZ web->aQ rs->fF rs->(∀x∈rs,fw x)->∃Z1,fc [.no,.no,.no,.no,.D<|.L<|(bu web).map pairD,.D<|.str<|cb web,.no,.no,.no,.D<|aC rs,.D<|.str<|cJ rs,.D<|aC<|cF rs,.no]=ac (false,Z1):=by
 let nd:=gq.nd;let(qW,sW,qS,sS,qT,sT,qR,sR,qF,sF,qX,sX):=Q;let key:∃fc,DT (LX P w K mg base f cdv A outer s Hx E) (uf<|bK 11) fc/\∀web rs,bJ web->bZ web->aQ rs->fF rs->(∀x∈rs,fw x)->∃Z1,fc [.no,.no,.no,.no,.D<|.L<|(bu web).map pairD,.D<|.str<|cb web,.no,.no,.no,.D<|aC rs,.D<|.str<|cJ rs,.D<|aC<|cF rs,.no]=ac (false,Z1):=by
  $$$T;$$$({_,?B,?C})
  case B=>$("T")
  ext web rs h hw F ok nu;let c:=sS _<|Fd h;let pm:=pd rs;let a:=F.perm pm;let b:=sF (cF rs) a λx hx=>nu x<|pm.mem_iff.1 hx;rw[Cz]at b;let d:=sS _<|yg a;let e:=sd F.nd F.aY F.ne;let fu:=Gs F;let g:=sW web h hw;$({_,tf (gE<|eC (ah (aE (ae (ah (aE (ae ρ ak) g) ρ)<|ae ρ ak) c) ρ) ρ)<|tf (gE<|eC (ah (aE (ae ρ<|ae (ah (aE (ae ρ ak) e) ρ) ak) d) ρ) ρ)<|bB<|aq (ah (aE (ae ρ ak) b) ρ) ρ<|ne_self fu})
 let(fc,(tc,p,q),h):=key;$(⟨tc,fc,p,q,h⟩)
def DN(i:Nat):Stmt:=(wU<|bK i).getD 0 (.Pass {0,0,0,0})
theorem VE:∃a,da (LX P w K mg base f cdv A outer s Hx E) (wU<|bK 5) a:=by
 let nd:=gq.nd;let key:∃b,cY (LX P w K mg base f cdv A outer s Hx E) [DN 5] b:=by
  $$$({_,?B})
  case B=>$("S")
 let(b,a,p,_):=key;$(⟨a,p⟩)
theorem Jj:∃a,da (LX P w K mg base f cdv A outer s Hx E) (wU<|bK 11) a:=by
 let nd:=gq.nd;let key:∃b,cY (LX P w K mg base f cdv A outer s Hx E) [DN 11] b:=by
  $$$({_,?B})
  case B=>$("S")
 let(b,a,p,_):=key;$(⟨a,p⟩)
variable{f:cA}{cdv:bt}{A:nL}{outer:List Env}{s:dq}{Hx:Hp}{E:XK}
variable{fnW fnS fnT fnR fnF fnX:aJ}
def vk(a:Dat)(Z:DS):DS:=(((Z.set 4<|.D a).set 6 .no).set 7 .no).set 8 .no
open Classical in
def wM(a:SF):SF:=λZ=>if h:∃web,bJ web/\bZ web/\Z[4]?=ac (.O<|.L<|(bu web).map pairD)/\Z[5]?=ac (.D<|.str<|cb web)/\Z.length=13 then a (vk (.L<|(bu<|choose h).map pairD) Z)else al
theorem Iy{a:SF}{Z:DS}{web:bb}(h:bJ web)(hw:bZ web)(b:Z[4]?=ac (.O<|.L<|(bu web).map pairD))(c:Z[5]?=ac (.D<|.str<|cb web))(d:Z.length=13):wM a Z=a (vk (.L<|(bu web).map pairD) Z):=by let hx:∃web,bJ web/\bZ web/\Z[4]?=ac (.O<|.L<|(bu web).map pairD)/\Z[5]?=ac (.D<|.str<|cb web)/\Z.length=13:=⟨web,h,hw,b,c,d⟩;$$(wM);rw[dif_pos hx];let z:=Slot.O.inj<|sO<|b.symm.trans (aau hx).2.2.1;rw[<-z]
theorem Vc(Q:jZ P w K mg base fnW fnS fnT fnR fnF fnX)(y:bS 7 (A.deeper<|HU "law" (aI fX) s.heap.objs.size f cdv)){a:List zR}{C:SF}(X:cY (LX P w K mg base f cdv A outer s Hx E) a C) :
  cY (LX P w K mg base f cdv A outer s Hx E) (bK 4::bK 5::bK 6::bK 7::a) (wM C):=by
 let nd:=gq.nd;let(te,fe,F,Y,r):=PL (f:=f) (outer:=outer) (Hx:=Hx) (E:=E) Q y;let(tc,fc,I,qc,u):=MU (f:=f) (outer:=outer) (Hx:=Hx) (E:=E) Q y;let(J,L):=VE (P:=P) (w:=w) (K:=K) (mg:=mg) (base:=base) (f:=f) (cdv:=cdv) (A:=A) (outer:=outer) (s:=s) (Hx:=Hx) (E:=E);let(tr,l,qr):=X;let p4:PS (LX P w K mg base f cdv A outer s Hx E) (bK 4) (qQ te<|kX 6):=Ad (i:=6) nd ρ (abW ρ) F;let M:PS (LX P w K mg base f cdv A outer s Hx E) (bK 5) (zW tc J zM):=zx I L Al;$({_,(kr p4<|kr M (kr K2<|kr Ku l).uO).EA,λH0 ps Z c H Hi o D e S k kn=>?_});clear p4 M F I L l;unfold wM at e;ext(g:∃web,bJ web/\bZ web/\Z[4]?=ac (.O<|.L<|(bu web).map pairD)/\Z[5]?=ac (.D<|.str<|cb web)/\Z.length=13)
 case neg=>rw[dif_neg g]at e;$(nO e)
 rw[dif_pos g]at e;let(h,hw,d4,d5,m):=aau g;generalize adM g=web at *;let(Z1,u):=u web h hw;let r:=r web h hw;let N:∀q∈bu web,q.2≠[]:=λq hq=>by let(z,hz,rfl):=a5.1 hq;$((h.tP<|ke.1 hz).2.1)
 let B:bu web≠[]:=λz=>by let:=wF web;rw[z]at this;let:=h.aY.1;simp at *;$_
 let(O,v4,z4,R,s',r4):=S.yw d4;let v:(Z.set 4<|.D<|.L<|(bu web).map pairD).length=13:=by rw[kx,m]
 let T:c.length=13:=by rw[<-S.len,m]
 let g4:(Z.set 4<|.D<|.L<|(bu web).map pairD)[4]?=ac (.D<|.L<|(bu web).map pairD):=hY ∅;let U:(Z.set 4<|.D<|.L<|(bu web).map pairD)[5]?=ac (.D<|.str<|cb web):=by rw[g0 ⋯];$d5
 show te c H λx H1=>tc (c.set 6<|ac x) H1 λb V=>if b=bd then J _ (c.set 6<|ac x) V else _;$(Ic Y qc R (j:=6) (ds:=(bu web).map pairD) (os0:=[al,al,al,al,al,ac<|.str<|cb web,al,al,al,al,al,al,al]) (os:=[al,al,al,al,ac<|.L<|(bu web).map pairD,ac<|.str<|cb web,ac<|.L<|(bu web).map pairD,al,al,al,al,al,al]) (by rw[v];rfl) (by rw[v];rfl) ?B ?h1 r u ∅ λp vs V Hn G=>?_)
 case B =>
  ext k d e
  match k,e with
  |0,e=>$$$e
  |1,e=>$$$e
  |2,e=>$$$e
  |3,e=>$$$e
  |4,e=>$$$e
  |5,e=>$$$e;$({{_,ρ},U})
  |6,e=>$$$e
  |7,e=>$$$e
  |8,e=>$$$e
  |9,e=>$$$e
  |10,e=>$$$e
  |11,e=>$$$e
  |12,e=>$$$e
  |n+13,e=>$$$e
 case h1 =>
  ext k d e
  match k,e with
  |0,e=>$$$e
  |1,e=>$$$e
  |2,e=>$$$e
  |3,e=>$$$e
  |4,e=>$$$e;$(τ {⋯,g4})
  |5,e=>$$$e;$(τ {⋯,U})
  |6,e=>$$$e;$(ι ⟨ρ,ρ⟩)
  |7,e=>$$$e
  |8,e=>$$$e
  |9,e=>$$$e
  |10,e=>$$$e
  |11,e=>$$$e
  |12,e=>$$$e
  |n+13,e=>$$$e
 rw[if_neg ⋯];$(RA G N B T kn.fz λW H5 c1 c2 up=>?_);$(qr H0 ps _ W H5 O o D e (xZ R up ?_ λi t e=>?_)<|k.mono s')
 .$$(vk);rw[kx,kx,kx,v,c1]
 unfold vk at e;let z||(n8,e):=vN e
 .$(ι z)
 let z||(n7,e):=vN e
 .$(ι z)
 let z||(n6,e):=vN e
 .$(ι z)
 $(τ {e,c2 i n6 n7 n8})
def yi(Z:DS):DS:=Z.set 11 .no
open Classical in
def w6(a:SF):SF:=λZ=>if∃web rs,bJ web/\bZ web/\aQ rs/\fF rs/\(∀x∈rs,fw x)/\Z[4]?=ac (.D<|.L<|(bu web).map pairD)/\Z[5]?=ac (.D<|.str<|cb web)/\Z[9]?=ac (.D<|aC rs)/\Z[10]?=ac (.D<|.str<|cJ rs)/\Z.length=13 then a (yi Z)else al
theorem K3(T:Txt mg)(Q:jZ P w K mg base fnW fnS fnT fnR fnF fnX)(y:bS 7 (A.deeper<|HU "law" (aI fX) s.heap.objs.size f cdv)){c:List zR}{C:SF}(R:cY (LX P w K mg base f cdv A outer s Hx E) c C) :
  cY (LX P w K mg base f cdv A outer s Hx E) (bK 10::bK 11::bK 12::c) (w6 C):=by
 let nd:=gq.nd;let(te,fe,I,U,r):=OC (f:=f) (outer:=outer) (Hx:=Hx) (E:=E) Q y;let(tc,fc,J,V,u):=Lb (f:=f) (outer:=outer) (Hx:=Hx) (E:=E) T Q y;let(L,M):=Jj (P:=P) (w:=w) (K:=K) (mg:=mg) (base:=base) (f:=f) (cdv:=cdv) (A:=A) (outer:=outer) (s:=s) (Hx:=Hx) (E:=E);let(tr,l,qr):=R;let p4:PS (LX P w K mg base f cdv A outer s Hx E) (bK 10) (qQ te<|kX 11):=Ad (i:=11) nd ρ (abW ρ) I;let N:PS (LX P w K mg base f cdv A outer s Hx E) (bK 11) (zW tc L zM):=zx J M Al;$({_,(kr p4<|kr N (kr IY l).uO).EA,λW ps Z g H X o D e S k Y=>?_});clear p4 N I J M l;unfold w6 at e;ext(v:∃web rs,bJ web/\bZ web/\aQ rs/\fF rs/\(∀x∈rs,fw x)/\Z[4]?=ac (.D<|.L<|(bu web).map pairD)/\Z[5]?=ac (.D<|.str<|cb web)/\Z[9]?=ac (.D<|aC rs)/\Z[10]?=ac (.D<|.str<|cJ rs)/\Z.length=13)
 case neg=>rw[if_neg v]at e;$(nO e)
 rw[if_pos v]at e;let(web,rs,h,hw,F,ok,nu,g4,g5,g9,m,a):=v;let(Z1,u):=u web rs h hw F ok nu;let r:=r rs F ok nu;let B:(cF rs).map az≠[]:=λz=>by let:=(pd rs).length_eq;rw[sq.1 z]at this;$(F.ne<|aaq.1 this.symm)
 let q:g.length=13:=by rw[<-S.len,a]
 show te g H λx H1=>tc (g.set 11<|ac x) H1 λb O=>if b=bd then L _ (g.set 11<|ac x) O else _;$(Ic U V S (j:=11) (ds:=(cF rs).map az) (os0:=[al,al,al,al,al,al,al,al,al,al,ac<|.str<|cJ rs,al,al]) (os:=[al,al,al,al,ac<|.L<|(bu web).map pairD,ac<|.str<|cb web,al,al,al,ac<|aC rs,ac<|.str<|cJ rs,ac<|aC<|cF rs,al]) (by rw[a];rfl) (by rw[a];rfl) ?B ?h1 r u ∅ λp vs O Hn G=>?_)
 case B =>
  ext k d e
  match k,e with
  |0,e=>$$$e
  |1,e=>$$$e
  |2,e=>$$$e
  |3,e=>$$$e
  |4,e=>$$$e
  |5,e=>$$$e
  |6,e=>$$$e
  |7,e=>$$$e
  |8,e=>$$$e
  |9,e=>$$$e
  |10,e=>$$$e;$({{_,ρ},m})
  |11,e=>$$$e
  |12,e=>$$$e
  |n+13,e=>$$$e
 case h1 =>
  ext k d e
  match k,e with
  |0,e=>$$$e
  |1,e=>$$$e
  |2,e=>$$$e
  |3,e=>$$$e
  |4,e=>$$$e;$(τ {⋯,g4})
  |5,e=>$$$e;$(τ {⋯,g5})
  |6,e=>$$$e
  |7,e=>$$$e
  |8,e=>$$$e
  |9,e=>$$$e;$(τ {⋯,g9})
  |10,e=>$$$e;$(τ {⋯,m})
  |11,e=>$$$e;$(ι ⟨ρ,ρ⟩)
  |12,e=>$$$e
  |n+13,e=>$$$e
 rw[if_neg ⋯];$(VI G B q Y.fz λH5 up=>?_);$(qr W ps _ _ H5 X o D e (xZ S up ?_ λi t e=>?_) k)
 .$$(yi);rw[kx,kx,a,q]
 unfold yi at e;let z||(n,e):=vN e
 .$(ι z)
 $(τ {e,g0<|Ne.symm n})
end
theorem GL{X:Cx}{pre a:List zR}{f g:SF}(h:oZ X pre f)(s:cY X a g):cY X (pre++a) (iQ f g):=by
 let(u,v,w):=s;let(t,p,q):=h.ex a u v;$({t,p,λb ps Z c H i o D e S k=>?_});unfold iQ at e;let(o1,j,l):=dQ e;cases o1 with
 |next Z1=>$(q b ps Z c H i (.next Z1) D j S λm x n y s'=>w b ps Z1 m x n o D l y (k.mono s'))
 |ret r d=>$$$$$$l;$(q b ps Z c H i _ D j S k)
 |brk d=>$$$$$$l;$(q b ps Z c H i _ D j S k)
 |cont d=>$$$$$$l;$(q b ps Z c H i _ D j S k)
 |exc C d=>$$$$$$l;$(q b ps Z c H i _ D j S k)
section
variable{P:hE}{w:iR}{K:e6}{mg:ew->Option bt}{base:k7}
variable{f:cA}{cdv:bt}{A:nL}{outer:List Env}{s:dq}{Hx:Hp}{E:XK}
variable{fnW fnS fnT fnR fnF fnX fnB fnE:aJ}{fnA fnG:dB}
structure ux (P:hE) (w:iR) (K:e6) (mg:ew->Option bt) (base:k7) (fnB fnE:aJ) (fnA fnG:dB):Prop where
 qP:aN P w K mg base "_law_purse" 1 (ay K og)
 qB:aN P w K mg base "_law_begun" 1 (ay K fnB)
 sB:rA fnB
 qE:aN P w K mg base "_law_web_text" 2 (ay K fnE)
 sE:qD fnE
 qA:aN P w K mg base "_law_any_web" 5 (dr K 0 fnA)
 sA:C0 fnA
 qG:aN P w K mg base "_law_rows" 4 (dr K 0 fnG)
 sG:A0 fnG
theorem Vn(T:Txt mg)(C:ik mg)(Q:ux P w K mg base fnB fnE fnA fnG)(D:bS 7 (A.deeper<|HU "law" (aI fX) s.heap.objs.size f cdv)) :
  ∃x,oZ (LX P w K mg base f cdv A outer s Hx E) [bK 0,bK 1,bK 2,bK 3] x/\∀(ns:List Int) (c:Int) (v t m k e g i j a b d:Slot),Fo v->Fo t->Fo m->Fo k->∃l web,bJ web/\bZ web /\
   x [.D (.cM ns),.D<|.int c,v,t,m,k,e,g,i,j,a,b,d]=ac (.next [.D (.cM ns),.D<|.int c,.O<|pD l,.D<|.L<|web.map pairD,.O<|.L<|(bu web).map pairD,.D<|.str<|cb web,e,g,i,j,a,b,d]):=by
 let nd:=gq.nd;let(qP,qB,sB,qE,sE,qA,sA,qG,sG):=Q;$$$T;$$$C;let lk:j7 "_law_purse_here":=⟨trivial⟩;$$$({_,?F,?G})
 case F=>$("dskc")
 clear qP qB qE qA qG D;ext ns c v t m k e g i j a b d H I J L;obtain⟨p,ep⟩:∃p:Int×Int,og [.int c]=ac (.O<|pD p):={(_,_),ρ};let(_,_,M,web,l,rfl,rfl,h,hw):=sA p;let aY:=h.aY;let sz:web.length<=sizeLine:=∅
 let ag:∀q∈web,fnB [.L (q.2.map .str)]=ac (.O<|.L<|(aK q.2).map .str):=λq o=>by let r:=h.rg q o;$(sB q.2 (λz=>by rw[z]at r;simp at r) (by let:=h.len o;$_) λn N=>h.txt (r.2.2 n N).1)
 let' u:bb:=web.map λq=>(q.1,aK q.2);let O:u.map (·.1)=web.map (·.1):=by show(web.map _).map _=_;rw[fm];rfl
 let B:=Hc (web:=u) (by show 1<=(web.map _).length/\_;rw[a8];$aY) (by rw[O];$h.nd);let R:dh u=bu web:=zY web;rw[R,show u.map pairD=web.map λq=>pairD (q.1,aK q.2)from fm]at B;$({l,web,h,hw,?_});$$$(dS (ij (Z2:=[.D (.cM ns),.D<|.int c,.O<|pD p,t,m,k,e,g,i,j,a,b,d]) (aE (ae ρ ak) ep)<|l9 H ρ)<|dR ?_);$$$(dS (ij (Z2:=[.D (.cM ns),.D<|.int c,.O<|pD l,.O<|.L<|web.map pairD,m,k,e,g,i,j,a,b,d]) (dz ρ ak ρ M ρ)<|l9 I ρ)<|dR ?_);$$$(dS (ij (Z2:=[.D (.cM ns),.D<|.int c,.O<|pD l,.D<|.L<|web.map pairD,.O<|.L<|(bu web).map pairD,k,e,g,i,j,a,b,d]) (aE (ae (kN<|dy (enc:=pairD) (xs:=web) (λq=>[.no,.D<|.str q.1,.D<|.L<|q.2.map .str]) (λq=>pairD (q.1,aK q.2)) (bX ρ) ρ sz ?S ?U ?V) ak) B)<|l9 J ρ)<|dR ?_)
 case S=>ext y hy Z hd;let rfl||(z,rfl):=hd<;>rfl
 case U=>ext q o;$(hU (ae ρ<|ae (ah (aE (ae ρ ak)<|ag q o) ρ) ak) (by simp[a9]))
 case V=>ext q o;rfl
 $$$(dS (ij (Z2:=[.D (.cM ns),.D<|.int c,.O<|pD l,.D<|.L<|web.map pairD,.O<|.L<|(bu web).map pairD,.D<|.str<|cb web,e,g,i,j,a,b,d]) (aE (ae ρ ak)<|sE web h hw)<|l9 L ρ)<|dR ?_);rfl
theorem KQ(T:Txt mg)(Q:jZ P w K mg base fnW fnS fnT fnR fnF fnX)(u:ux P w K mg base fnB fnE fnA fnG)(v:bS 7 (A.deeper<|HU "law" (aI fX) s.heap.objs.size f cdv)) :
  ∃q,oZ (LX P w K mg base f cdv A outer s Hx E) [bK 8,bK 9] q/\∀(o:Int×Int) (d e g h j k l m p c a b:Slot),Fo p->Fo c->∃n rs,aQ rs/\fF rs/\Sm rs/\(∀x∈rs,fw x) /\
   q [d,e,.O<|pD o,g,h,j,k,l,m,p,c,a,b]=ac (.next [d,e,.O<|pD n,g,h,j,k,l,m,.D<|aC rs,.D<|.str<|cJ rs,a,b]):=by
 let nd:=gq.nd;let(qP,qB,sB,qE,sE,qA,sA,qG,sG):=u;let(qW,sW,qS,sS,qT,sT,qR,sR,qF,sF,qX,sX):=Q;$$$T;let lk:j7 "_law_purse_here":=⟨trivial⟩;$$$({_,?B,?C})
 case B=>$("dskc")
 clear qP qB qE qA qG qW qS qT qR qF qX v;ext o d e g h j k l m p c a b y t;let(_,_,z,rs,n,rfl,rfl,F,ok,sm):=sG o 8 ⋯ ⋯;let nu:∀x∈rs,fw x:=λx hx=>by let r:=F.row x hx;let s:=sm x hx;let nm:=F.nm x hx;unfold cy at nm;simp?[ec,decide_eq_true_eq]at nm;$({by lia,λi hi=>?_});simp?[dV,eT,or_false]at hi;let rfl||rfl||rfl||rfl:=hi<;>$(G7 (by lia) (by lia))
 $({n,rs,F,ok,sm,nu,?_});$$$(dS (ij (Z2:=[d,e,.O<|pD n,g,h,j,k,l,m,.O<|aC rs,c,a,b]) (dz ρ (ae ρ ak) ρ z ρ)<|l9 y ρ)<|dR ?_);$$$(dS (ij (Z2:=[d,e,.O<|pD n,g,h,j,k,l,m,.D<|aC rs,.D<|.str<|cJ rs,a,b]) (aE (ae ρ ak)<|sX rs F nu)<|l9 t ρ)<|dR ?_);rfl
variable{f:cA}{cdv:bt}{A:nL}{outer:List Env}{s:dq}{Hx:Hp}{E:XK}
variable{fnW fnS fnT fnR fnF fnX fnB fnE:aJ}{fnA fnG:dB}
def gC:Int:=10 ^ 30+1
def iK(rs:Fl):Fl:=rs.map λy=>(y.1,gO gC y.2)
theorem QY{rs:Fl}(F:aQ rs)(sm:Sm rs):aQ (iK rs)/\fF (iK rs)/\∀x∈iK rs,fw x:=by
 let a:aQ (iK rs):=F.large (c:=gC) ⋯;let d:∀x∈iK rs,0<=x.2.l/\x.2.l<10 ^ 59/\0<=x.2.b/\x.2.b<10 ^ 59/\0<=x.2.r/\x.2.r<10 ^ 59/\0<=x.2.t/\x.2.t<10 ^ 59:=by
  ext x hx;let r:=a.row x hx;let(y,e,rfl):=a5.1 hx;let q:=F.row y e;let s:=sm y e;let c:gC=1000000000000000000000000000001:=⋯
  dsimp[gO]at r ⊢;rw[c]at r ⊢;$_
 $({a,a.Rz λx hx=>by let:=d x hx;$_,λx hx=>?_});let nm:=a.nm x hx;let b:=d x hx;unfold cy at nm;simp?[ec,decide_eq_true_eq]at nm;$({∅,λi hi=>?_});simp?[dV,eT,or_false]at hi;let rfl||rfl||rfl||rfl:=hi<;>$(G7 ∅ ∅)
theorem N4(T:Txt mg)(Q:jZ P w K mg base fnW fnS fnT fnR fnF fnX)(L:bS 7 (A.deeper<|HU "law" (aI fX) s.heap.objs.size f cdv)) :
  ∃C,cY (LX P w K mg base f cdv A outer s Hx E) [bK 13,bK 14,bK 15] C/\∀(rs:Fl) (g h j k n o p u v a c:Slot),aQ rs->fF rs->Sm rs->(∀x∈rs,fw x)->Fo c->∃d,
   C [g,h,j,k,n,o,p,u,v,.D<|aC rs,.D<|.str<|cJ rs,a,c]=ac (.next [g,h,j,k,n,o,p,u,v,.D<|aC rs,.D<|.str<|cJ rs,a,.D d]):=by
 let nd:=gq.nd;let(qW,sW,qS,sS,qT,sT,qR,sR,qF,sF,qX,sX):=Q;$$$T;$$$({_,?M,?N})
 case M=>$("S")
 clear qW qS qT qR qF qX L;ext rs g h j k n o p u v a c F ok sm nu D;let(G,H,B):=QY F sm;let pm:=pd rs;let I:=pd<|iK rs;let O:=F.perm pm;let R:=G.perm I;let aY:=F.aY;let sz:rs.length<=sizeLine:=∅
 let S:=sR rs F ok nu;let U:=sS _<|yg O;let V:=sd F.nd F.aY F.ne;let W:=sR _ G H B;let X:=sS _<|yg R;let Y:=sd G.nd G.aY G.ne;let e5:=sX _ G B;let gr:(rs.map λx=>az (x.1,gO gC x.2))=(iK rs).map az:=by$$(iK);rw[fm];rfl
 let mu:∀x∈rs,∀i∈[x.2.l,x.2.b,x.2.r,x.2.t],dX i gC=bd:=by
  ext x hx i hi;let r:=F.row x hx;let s:=sm x hx;let:0<=i/\i<=2 ^ 90:=by simp?[dV,eT,or_false]at hi;let rfl||rfl||rfl||rfl:=hi<;>$_
  $(zE ∅ ⋯)
 $({aC<|iK rs,?_});$$$(dS (ij (r:=.O<|aC<|iK rs) (Z1:=[g,h,j,k,n,o,p,u,v,.D<|aC rs,.D<|.str<|cJ rs,a,c]) (Z2:=[g,h,j,k,n,o,p,u,v,.D<|aC rs,.D<|.str<|cJ rs,a,.O<|aC<|iK rs]) ?c0<|l9 D ρ)<|dR ?c9)
 case c0 =>
  show _=ac (Res.O<|.L<|(iK rs).map az,_);rw[<-gr];$$$(dy (enc:=az) (xs:=rs) (Z1:=[g,h,j,k,n,o,p,u,v,.D<|aC rs,.D<|.str<|cJ rs,a,c]) (λx=>[.no,.D<|az x]) (λx=>az (x.1,gO gC x.2)) (bX ρ) ρ sz ?c4 ?c5 ?c6)
  case c4=>ext y J Z hd;let rfl||(z,rfl):=hd<;>rfl
  case c6=>ext q hq;rfl
  ext x hx;let m:=mu x hx;let er:Dat.U [.str x.1,.int<|x.2.l*gC,.int<|x.2.b*gC,.int<|x.2.r*gC,.int<|x.2.t*gC]=az (x.1,gO gC x.2):=by show _=Dat.U [.str x.1,.int<|gC*x.2.l,.int<|gC*x.2.b,.int<|gC*x.2.r,.int<|gC*x.2.t];simp?[Int.mul_comm gC]
  rw[<-er];$$$(ah (aq (r:=.D<|.U [.str x.1,.int<|x.2.l*gC,.int<|x.2.b*gC,.int<|x.2.r*gC,.int<|x.2.t*gC]) (hU (ae (dD ρ ρ ρ ρ) ak) (by show 1<=a9;$$(a9);decide)) (ah (aE (ae (kN<|dy (enc:=Dat.int) (xs:=[x.2.l,x.2.b,x.2.r,x.2.t]) (Z1:=[.no,.D<|az x]) (λi=>[.no,.D<|.int i]) (λi=>Dat.int<|i*gC) (vY<|ah (gZ<|gQ ρ ρ (r:=.D<|.U [.int x.2.l,.int x.2.b,.int x.2.r,.int x.2.t]) ρ) ρ) ρ ?j1 ?j2 ?j3 ?j4) ak) ρ) ρ) ?j5) ρ)
  case j1=>show 4<=a9;$$(a9);decide
  case j2=>ext y J Z hd;let rfl||(z,rfl):=hd<;>rfl
  case j3=>ext i hi;$(ah (gZ<|aq ρ (ah (aq (ah (aq ρ ρ ρ) ρ) ρ ρ) ρ)<|if_pos<|m i hi) ρ)
  case j4=>ext y J;rfl
  $(if_pos (e:=al) (by show 1+4<=a9;$$(a9);decide))
 $$$(dS (r6 (gE<|eC (ah (aE (ae (ah (aE (ae ρ ak) S) ρ)<|ae (ah (aE (ae ρ ak) V) ρ) ak) U) ρ) ρ)<|qz ρ ρ)<|dR ?_);$$$(dS (r6 (gE<|eC (ah (aE (ae (ah (aE (ae (ah (aE (ae ρ ak) e5) ρ) ak) W) ρ)<|ae (ah (aE (ae ρ ak) Y) ρ) ak) X) ρ) ρ)<|qz ρ ρ)<|dR ?_);rfl
theorem Lz{X:Cx}{st:List zR}{f g:SF}(h:cY X st f)(hw:∀Z o,g Z=ac o->∃Z1 Z2,o=.next Z2/\f Z=ac (.next Z1)/\Z2.length=Z1.length/\∀(i:Nat) (s:Slot),Z2[i]?=ac s->s=.no\/Z1[i]?=ac s):cY X st g:=by let(t,p,q):=h;$({t,p,λj ps Z m H n o D e S k=>?_});let(Z1,Z2,rfl,r,l,u):=hw Z o e;$(q j ps Z m H n _ D r S λa v c d s'=>k a v c (xZ d (λb o e=>e) (by rw[l];$d.len) λi t e=>(u i t e).imp id λz=>⟨z,ρ⟩) s')
def zK:SF:=λZ=>match Z with
 |.D (.cM ns)::.D (.int c)::a=>@ite _ (a.length=11/\∀t∈a,Fo t) (Classical.propDecidable _) (ac<|.next (.D (.cM ns)::.D (.int c)::nB 11 .no)) al
 |_=>al
theorem Vw(T:Txt mg)(z:ik mg)(Q:jZ P w K mg base fnW fnS fnT fnR fnF fnX)(v:ux P w K mg base fnB fnE fnA fnG)(g:bS 7 (A.deeper<|HU "law" (aI fX) s.heap.objs.size f cdv)):cY (LX P w K mg base f cdv A outer s Hx E) (xc<|xm 0) zK:=by
 let(f0,B,m):=Vn (f:=f) (outer:=outer) (Hx:=Hx) (E:=E) T z v g;let(f1,C,p):=KQ (f:=f) (outer:=outer) (Hx:=Hx) (E:=E) T Q v g;let(f2,D,q):=N4 (f:=f) (outer:=outer) (Hx:=Hx) (E:=E) T Q g;rw[RX];$(Lz (GL B<|Vc Q g<|GL C<|K3 T Q g D) λZ o e=>?_);unfold zK at e;$$$$$e
 case h_2=>$(nO e)
 ext1 ns c r;ext(u:r.length=11/\∀t∈r,Fo t)
 case neg=>rw[if_neg u]at e;$(nO e)
 rw[if_pos u]at e;$$$$$$e;let(G,b):=u
 match r,G,b with
 |[H,I,J,L,M,N,O,x,k,l,j],_,b =>
  let(R,web,h,hw,m):=m ns c H I J L M N O x k l j (b _ ⋯) (b _ ⋯) (b _ ⋯)<|b _ ⋯;let(y,rs,F,ok,sm,nu,p):=p R (.D<|.cM ns) (.D<|.int c) (.D<|.L<|web.map pairD) (.D<|.L<|(bu web).map pairD) (.D<|.str<|cb web) .no .no .no x k l j (b _ ⋯)<|b _ ⋯;let(d,q):=q rs (.D<|.cM ns) (.D<|.int c) (.O<|pD y) (.D<|.L<|web.map pairD) (.D<|.L<|(bu web).map pairD) (.D<|.str<|cb web) .no .no .no .no j F ok sm nu<|b _ ⋯;$({[.D (.cM ns),.D<|.int c,.O<|pD y,.D<|.L<|web.map pairD,.D<|.L<|(bu web).map pairD,.D<|.str<|cb web,.no,.no,.no,.D<|aC rs,.D<|.str<|cJ rs,.no,.D d],_,ρ,?_,ρ,λi s a=>?_})
  .$(dS m<|dR ?_);rw[Iy h hw ρ ρ ρ];$(dS p<|dR ?_);$$(w6);rw[if_pos ⟨web,rs,h,hw,F,ok,nu,ρ,ρ,ρ,ρ,ρ⟩];$q
  match i,a with
  |0,a=>$(τ a)
  |1,a=>$(τ a)
  |n+2,a =>
   left;let a:(nB 11 Slot.no)[n]?=ac s:=a;rw[aar]at a;$$$$$a
   .$((sO a).symm)
   $(nO a)
end
local macro_rules | `(tactic| walk_at "S")=>Mq.fs ".a"
section
variable{P:hE}{w:iR}{K:e6}{mg:ew->Option bt}{base:k7}
variable{fnW fnS fnT fnR fnF fnX fnB fnE:aJ}{fnA fnG:dB}
def Cs(fn:aJ):Prop:=∀ns:List Int,ns.length<=63->fn [.cM ns]=ac (.D<|.bl true)
theorem VW(T:Txt mg)(j:ik mg)(Q:jZ P w K mg base fnW fnS fnT fnR fnF fnX)(l:ux P w K mg base fnB fnE fnA fnG){f:cA}{m:gi}(F:ba K "law" "law" fX f m):∃fn,aS P w K mg base aT 8 f m ["_law_script"] (ay K fn)/\Cs fn:=by
 $$$(bQ F gq (n:=1) ρ ?D ?B)
 case D=>ext cdv A outer s H E p;let hB:=Vw (f:=f) (outer:=outer) (Hx:=H) (E:=E) T j Q l p;let nd:=gq.nd;$$$T;$("S")
 clear T j F Q l;ext ns hns;$$$(bT ρ ?w);show WS _ [.D (.cM ns),.no,.no,.no,.no,.no,.no,.no,.no,.no,.no,.no,.no] _;let d:Fo Slot.no:=λ_ h=>by$$$h
 $$$(ao<|e8 (ds:=[.int 0,.int 5,.int 11]++(cutD ns al<|ac 10).map Dat.int) (λk Z=>∃b a,Fo b/\a.length=11/\(∀t∈a,Fo t)/\Z=.D (.cM ns)::b::a) ?i ?G ?st ?C)
 case i=>$(bX (ah (aq (ah (dW (ae ρ<|ae ρ<|ae ρ ak) (by show 3<=a9;$$(a9);decide)) ρ) (ah (gZ<|jt ρ ρ ρ) ρ) (eU (by
  simp?[a8,show cutD ns al (ac 10)=ns.take 10 from mH ns 10,f'];$$(a9);show 3+_<=_
  lia))) ρ))
 case G=>$({.no,nB 11 .no,d,ρ,λt g=>by rw[adi g];$d,ρ})
 case C=>ext _ ⟨b,a,_,o,_,rfl⟩;$(au<|ao<|bY ρ ⟨_,ρ⟩)
 ext k y q Z ⟨b,a,r,o,u,rfl⟩;obtain⟨c,rfl⟩:∃c,y=.int c:=by
  let v:=eK q;let h||h:=el.1 v
  .simp?[dV,eT,or_false]at h;let rfl||rfl||rfl:=h<;>$({_,ρ})
  let(c,_,rfl):=a5.1 h;$(⟨c,ρ⟩)
 $({.D (.cM ns)::.D (.int c)::a,l9 r ρ,?_});let e:zK (.D (.cM ns)::.D (.int c)::a)=ac (.next (.D (.cM ns)::.D (.int c)::nB 11 .no)):=if_pos ⟨o,u⟩;$(M5 e ?_);$({.D<|.int c,nB 11 .no,λ_ h=>(by$$$h),ρ,λt g=>by rw[adi g];$d,ρ})
structure DI (K:e6) (x:ew) (s:zR) (f:cA):Prop where
 a:z5 K hI x=ac (ac<|.ref f)
 l:∃fd,ba K x x s f fd
 k:acB K (.ref f)=bd
def DI.ok{x:ew}{s:zR}{f:cA}{c:gi}{ps:List ew}{k:Nat}{sp:Sp}{h:k7}(d:DI K x s f)(X:K.In h)(G:h.Ns hI mg)(F:ba K x x s f c)(o:aS P w K mg base aT k f c ps sp)(b:∀(kV g pm:bt) (i:Option cA) (cdv ct:bt) (e:List bt),e.length=ps.length->af6 (adk x x (rD s) (jD s) (aI s) .none kV g pm i cdv ct) {e,[]}=pure (ps.zip e)):aN P w K mg base x k sp:={f,c,ps,o,abM X G d.a,d.k,F.binds b}
def cv:∀{b:List c},b.length=1->∃a,b=[a]:=List.length_eq_one_iff.1
theorem fJ (h:c.length=2):∃a b,c=[a,b]:=by
 cases c with
 |nil=>$$$h
 |cons a r=>let(b,rfl):=cv<|Nat.succ.inj h;$(⟨a,b,ρ⟩)
theorem nG (h:d.length=3):∃a b c,d=[a,b,c]:=by
 cases d with
 |nil=>$$$h
 |cons a r=>let(b,c,rfl):=fJ<|Nat.succ.inj h;$(⟨a,b,c,ρ⟩)
theorem Jd (h:e.length=4):∃a b c d,e=[a,b,c,d]:=by
 cases e with
 |nil=>$$$h
 |cons a r=>let(b,c,d,rfl):=nG<|Nat.succ.inj h;$(⟨a,b,c,d,ρ⟩)
def uJ(K:e6):Sp:=λvs H Q _=>∃(a:cA) (ns:List Int),vs=[.ref a]/\bV K H a (ns.map V.int)/\ns.length<=63/\∀b,Q (.bl true) b
def QB (s:Cs fn)(vs:List V)(H:Hp)(Q:VK)(E:XK)(h:uJ K vs H Q E):ay K fn vs H Q E:=by let(a,ns,rfl,b,c,k):=h;$({H,[.cM ns],_,af.refl H,{.ref a,[],ρ,⟨a,ρ,b⟩,ρ},s ns c,?_});ext v d Hi2 _ _ _ _ e;cases(e);$(k d)
end
def all_mk{l:acG}{w:iR}{K:e6}{h:k7}{mg:ew->Option bt}{fa X7 X8 X9 X' Ya Yb Yc Yd Ye Yf Yg Yh Yi Yj Yk Yl Ym Yn Yo Yp Yq Yr Ys Yt Yu Yv Yw Yx Yy Yz YA YB YC YD YE YF YG YH YI YJ YK YL YM YN YO YQ YR YS YT YU YV YW YX:cA}{p:cA}{t1 t2 t3 t4 t5 t6 t7 t8 t9:Tok}{nW:Nat}{slW:Array (Option bt)}(X:K.In h)(G:h.Ns hI mg)(hfa:mg "law"=ac (.ref fa))
 (E:DI K "follower" zw X7)
 (F:DI K "is_name" x6 X8)
 (I:DI K "is_pair" wR X9)
 (J:DI K "is_ring" AZ X')
 (L:DI K "has_form" xo Ya)
 (M:DI K "ties_are_shared" yN Yb)
 (N:DI K "corners_of" AU Yc)
 (O:DI K "corner_closes" Bd Yd)
 (Q:DI K "corners_close" A5 Ye)
 (R:DI K "row_along" Au Yf)
 (S:DI K "wall_has_row" AJ Yg)
 (U:DI K "has_one_of" xH Yh)
 (V:DI K "all_reached" xC Yi)
 (Y:DI K "ties_of" xq Yj)
 (Z:DI K "threes_of" yM Yk)
 (be:DI K "must_web" AV Yl)
 (yq:DI K "begun_at_first" y6 Ym)
 (V7:DI K "in_order" yu Yn)
 (V8:DI K "show_web" A4 Yo)
 (V9:DI K "show_floor" wY Yp)
 (V':DI K "is_whole" Bq Yq)
 (Wa:DI K "is_row" Aw Yr)
 (Wb:DI K "area" Aa Ys)
 (Wc:DI K "width_shared" x8 Yt)
 (Wd:DI K "height_shared" Bn Yu)
 (We:DI K "lies_over" yL Yv)
 (Wf:DI K "is_any_floor" Aq Yw)
 (Wg:DI K "read_ring" Bl Yx)
 (Wh:DI K "read_web" zO Yy)
 (Wi:DI K "read_number" zo Yz)
 (Wj:DI K "read_row" zS YA)
 (Wk:DI K "read_floor" Bo YB)
 (Wl:DI K "_law_whole" Bj YC)
 (g:DI K "_law_same" AK YD)
 (Wm:DI K "_law_purse" xB YE)
 (Wn:DI K "_law_take" zi YF)
 (Wo:DI K "_law_names" A9 YG)
 (Wp:DI K "_law_halved" yK YH)
 (Wq:DI K "_law_whirled" ye YI)
 (Wr:DI K "_law_cut_up" Ay YJ)
 (Ws:DI K "_law_rows" yW YK)
 (Wt:DI K "_law_over" AI YL)
 (Wu:DI K "_law_side" zA YM)
 (Wv:DI K "_law_ring" xt YN)
 (Ww:DI K "_law_web" xT YO)
 (Wx:DI K "_law_meeting" Ba YQ)
 (Wy:DI K "_law_between" zL YR)
 (Wz:DI K "_law_put_in" zp YS)
 (WC:DI K "_law_any_web" yX YT)
 (WG:DI K "_law_begun" AM YU)
 (WH:DI K "_law_web_text" yC YV)
 (WI:DI K "_law_floor_text" xQ YW)
 (WJ:DI K "law" fX YX)
 (XW:z5 K hI "len"=ac al)
 (XX:z5 K hI "int"=ac al)
 (j:z5 K hI "isinstance"=ac al)
 (C:z5 K hI "range"=ac al)
 (XY:z5 K hI "min"=ac al)
 (XZ:z5 K hI "max"=ac al)
 (X0:z5 K hI "all"=ac al)
 (WK:z5 K hI "dict"=ac al)
 (q:z5 K hI "sorted"=ac al)
 (D:z5 K hI "tuple"=ac al)
 (WL:z5 K hI "list"=ac al)
 (X1:z5 K hI "str"=ac al)
 (WM:z5 K hI "bool"=ac al)
 (z:z5 K hI "any"=ac al)
 (X2:z5 K hI "sum"=ac al)
 (A:z5 K hI "set"=ac al)
 (m:z5 K hI "enumerate"=ac al)
 (X3:z5 K hI "zip"=ac al)
 (aW:z5 K hI "WALLS"=ac (ac<|.ref p))
 (lW:K.lookup p=ac {.type "tuple",al,.seq #[.str "north" t1,.str "east" t2,.str "south" t3,.str "west" t4] nW,slW})
 (aM:z5 K hI "MOST_ROOMS"=ac (ac<|.int 8 t5))
 (aL:z5 K hI "LONGEST_NAME"=ac (ac<|.int 8 t6))
 (aR:z5 K hI "FEWEST_NEIGHBOURS"=ac (ac<|.int 3 t7))
 (aX:z5 K hI "ROW_LENGTH"=ac (ac<|.int 5 t8))
 (aG:z5 K hI "MOST_FIGURES"=ac (ac<|.int 60 t9)) :
  ∃fd:gi,(∀(s:dq) (v:bt),adu s fd {[v],[]} [("_law_script",v)])/\∀base:k7,K.In base->base.Ns hI mg->aS l.prog w K mg base aT 8 fa fd ["_law_script"] (uJ K):=by
 let e:=hfa.symm.trans<|abM X G WJ.a;$$$e;let T:Txt mg:={m5 X G XW,m5 X G XX,m5 X G j,m5 X G C,m5 X G XY,m5 X G XZ,m5 X G X0,m5 X G WK,m5 X G q,m5 X G D,m5 X G WL,m5 X G X1,m5 X G WM};let n:ik mg:={m5 X G z,m5 X G X2,m5 X G A,m5 X G m};let(fd_aa,WN):=E.l;let(fd_ab,WO):=F.l;let(fd_ac,WQ):=I.l;let(fd_ad,WR):=J.l;let(fd_ae,WT):=L.l;let(fd_af,WU):=M.l;let(fd_ag,WV):=N.l;let(fd_ah,WW):=O.l;let(fd_ai,WX):=Q.l;let(fd_aj,WY):=R.l;let(fd_ak,WZ):=S.l;let(fd_al,W1):=U.l;let(fd_am,W2):=V.l;let(fd_an,W3):=Y.l;let(fd_ao,W4):=Z.l;let(fd_ap,W5):=be.l;let(fd_aq,W6):=yq.l;let(fd_ar,W7):=V7.l;let(fd_as,W8):=V8.l;let(fd_at,W9):=V9.l;let(fd_au,W'):=V'.l;let(fd_av,Xa):=Wa.l;let(fd_aw,Xb):=Wb.l;let(fd_ax,Xc):=Wc.l;let(fd_ay,Xd):=Wd.l;let(fd_az,Xe):=We.l;let(fd_ba,Xf):=Wf.l;let(fd_bb,Xg):=Wg.l;let(fd_bc,Xh):=Wh.l;let(fd_bd,Xi):=Wi.l;let(fd_be,Xj):=Wj.l;let(fd_bf,Xk):=Wk.l;let(fd_bg,Xl):=Wl.l;let(fd_bh,f):=g.l;let(fd_bi,Xm):=Wm.l;let(fd_bj,Xn):=Wn.l;let(fd_bk,Xo):=Wo.l;let(fd_bl,Xp):=Wp.l;let(fd_bm,Xq):=Wq.l;let(fd_bn,Xr):=Wr.l;let(fd_bo,Xs):=Ws.l;let(fd_bp,Xt):=Wt.l;let(fd_bq,Xu):=Wu.l;let(fd_br,Xv):=Wv.l;let(fd_bs,Xw):=Ww.l;let(fd_bt,Xx):=Wx.l;let(fd_bu,Xy):=Wy.l;let(fd_bv,Xz):=Wz.l;let(fd_bw,XA):=WC.l;let(fd_bx,XB):=WG.l;let(fd_by,XC):=WH.l;let(fd_bz,XD):=WI.l;let(X4,XF):=WJ.l;let(_,_,_,_,_,_,_,_,_,hfd,_,_):=id XF.ex;$({X4,λs v=>by rw[hfd];$(.of_eq ρ),λbase _ _=>?_});let i:=Wn.ok (sp:=(dr K 0 gn)) X G Xn (Ko (P:=l.prog) (w:=w) (base:=base) T Xn) λ_ _ _ _ _ _ c b=>(by let(u,v,rfl):=fJ b;rfl);let YY:=Wm.ok (sp:=(ay K og)) X G Xm (OK (P:=l.prog) (w:=w) (base:=base) T Xm) λ_ _ _ _ _ _ c b=>(by let(u,rfl):=cv b;rfl);let r:eB K mg "WALLS" (.U [.str "north",.str "east",.str "south",.str "west"]):={.ref p,_,abM X G aW,ρ,λH=>{p,[.str "north",.str "east",.str "south",.str "west"],ρ,τ {_,_,_,lW,ρ,ρ,(by show 4<=a9;$$(a9);decide),.cons {_,ρ}<|.cons ⟨_,ρ⟩<|.cons ⟨_,ρ⟩<|.cons ⟨_,ρ⟩ .nil},{_,_,ρ,ρ,_,_,ρ,ρ,_,_,ρ,ρ,_,_,ρ,ρ,ρ}}};let gM:eB K mg "MOST_ROOMS" (.int 8):={.int 8,_,abM X G aM,{_,ρ},λH=>rfl};let gL:eB K mg "LONGEST_NAME" (.int 8):={.int 8,_,abM X G aL,{_,ρ},λH=>rfl};let gT:zj K mg "WALLS" Er:={p,_,_,_,abM X G aW,lW,ρ,ρ,ρ,(by show 4<=a9;$$(a9);decide),.cons {_,ρ}<|.cons ⟨_,ρ⟩<|.cons ⟨_,ρ⟩<|.cons ⟨_,ρ⟩ .nil};let gF:eB K mg "FEWEST_NEIGHBOURS" (.int 3):={.int 3,_,abM X G aR,{_,ρ},λH=>rfl};let gR:eB K mg "ROW_LENGTH" (.int 5):={.int 5,_,abM X G aX,{_,ρ},λH=>rfl};let gG:eB K mg "MOST_FIGURES" (.int 60):={.int 60,_,abM X G aG,{_,ρ},λH=>rfl};let X5:=m5 X G z;let B:=m5 X G A;let X6:=m5 X G X3;let(fn1,YZ,XG):=TQ (P:=l.prog) (w:=w) (base:=base) T r gL WO;let XH:=F.ok X G WO YZ λ_ _ _ _ _ _ c b=>(by let(u,rfl):=cv b;rfl);let(fn2,Y0,XI):=Ow (P:=l.prog) (w:=w) (base:=base) T r gT WN;let XJ:=E.ok X G WN Y0 λ_ _ _ _ _ _ c b=>(by let(u,rfl):=cv b;rfl);let(fn3,Y1,Y2):=R4 (P:=l.prog) (w:=w) (base:=base) T XH XG WQ;let Y3:=I.ok X G WQ Y1 λ_ _ _ _ _ _ c b=>(by let(u,rfl):=cv b;rfl);let(fn4,Y4,Y5):=SH (P:=l.prog) (w:=w) (base:=base) T gF B WR;let Y6:=J.ok X G WR Y4 λ_ _ _ _ _ _ c b=>(by let(u,v,w,rfl):=nG b;rfl);let(fn5,Y7,Y8):=Td (P:=l.prog) (w:=w) (base:=base) T r gM B Y3 Y2 Y6 Y5 WT;let Y9:=L.ok X G WT Y7 λ_ _ _ _ _ _ c b=>(by let(u,rfl):=cv b;rfl);let(fn6,Y',Za):=T1 (P:=l.prog) (w:=w) (base:=base) T WU;let Zb:=M.ok X G WU Y' λ_ _ _ _ _ _ c b=>(by let(u,rfl):=cv b;rfl);let(fn7,Zc,t):=Pc (P:=l.prog) (w:=w) (base:=base) T X6 WV;let y:=N.ok X G WV Zc λ_ _ _ _ _ _ c b=>(by let(u,rfl):=cv b;rfl);let(fn8,Zd,Zf):=J5 (P:=l.prog) (w:=w) (base:=base) T r XJ XI WW;let Zg:=O.ok X G WW Zd λ_ _ _ _ _ _ c b=>(by let(u,v,rfl):=fJ b;rfl);let(fn9,Zh,Zi):=RM (P:=l.prog) (w:=w) (base:=base) T y t Zg Zf WX;let Zj:=Q.ok X G WX Zh λ_ _ _ _ _ _ c b=>(by let(u,rfl):=cv b;rfl);let(fn10,Zk,Zl):=UB (P:=l.prog) (w:=w) (base:=base) T WY;let Zm:=R.ok X G WY Zk λ_ _ _ _ _ _ c b=>(by let(u,v,w,rfl):=nG b;rfl);let(fn11,Zn,Zo):=Rl (P:=l.prog) (w:=w) (base:=base) T y t XJ XI Zm Zl WZ;let Zp:=S.ok X G WZ Zn λ_ _ _ _ _ _ c b=>(by let(u,v,rfl):=fJ b;rfl);let(fn12,Zq,Zr):=Ng (P:=l.prog) (w:=w) (base:=base) T X5 W1;let Zs:=U.ok X G W1 Zq λ_ _ _ _ _ _ c b=>(by let(u,v,rfl):=fJ b;rfl);let(fn13,Zt,Zu):=Va (P:=l.prog) (w:=w) (base:=base) T r Zs Zr W2;let Zv:=V.ok X G W2 Zt λ_ _ _ _ _ _ c b=>(by let(u,rfl):=cv b;rfl);let(fn14,Zw,Zx):=IS (P:=l.prog) (w:=w) (base:=base) T r W3;let Zy:=Y.ok X G W3 Zw λ_ _ _ _ _ _ c b=>(by let(u,rfl):=cv b;rfl);let(fn15,Zz,ZA):=PM (P:=l.prog) (w:=w) (base:=base) T y t W4;let ZC:=Z.ok X G W4 Zz λ_ _ _ _ _ _ c b=>(by let(u,rfl):=cv b;rfl);let(fn16,ZD,ZE):=QJ (P:=l.prog) (w:=w) (base:=base) T r Y9 Y8 Zb Za Zj Zi Zp Zo Zv Zu ZC ZA Zy Zx W5;let ZF:=be.ok X G W5 ZD λ_ _ _ _ _ _ c b=>(by let(u,rfl):=cv b;rfl);let(fn17,ZG,ZH):=Si (P:=l.prog) (w:=w) (base:=base) T W6;let ZI:=yq.ok X G W6 ZG λ_ _ _ _ _ _ c b=>(by let(u,rfl):=cv b;rfl);let(fn18,ZJ,ZK):=QH (P:=l.prog) (w:=w) (base:=base) T ZI ZH W7;let ZL:=V7.ok X G W7 ZJ λ_ _ _ _ _ _ c b=>(by let(u,rfl):=cv b;rfl);let(fn19,ZM,XM):=U9 (P:=l.prog) (w:=w) (base:=base) T ZF ZE ZL ZK W8;let XN:=V8.ok X G W8 ZM λ_ _ _ _ _ _ c b=>(by let(u,rfl):=cv b;rfl);let(fn20,ZN,XO):=Rw (P:=l.prog) (w:=w) (base:=base) T W9;let XQ:=V9.ok X G W9 ZN λ_ _ _ _ _ _ c b=>(by let(u,rfl):=cv b;rfl);let(fn21,ZO,ZP):=QC (P:=l.prog) (w:=w) (base:=base) T i Xo;let ZQ:=Wo.ok X G Xo ZO λ_ _ _ _ _ _ c b=>(by let(u,rfl):=cv b;rfl);let(fn22,ZR,ZS):=N2 (P:=l.prog) (w:=w) (base:=base) T Xp;let ZT:=Wp.ok X G Xp ZR λ_ _ _ _ _ _ c b=>(by let(u,v,w,rfl):=nG b;rfl);let(fn23,ZU,ZV):=Ny (P:=l.prog) (w:=w) (base:=base) T i Xq;let ZW:=Wq.ok X G Xq ZU λ_ _ _ _ _ _ c b=>(by let(u,v,rfl):=fJ b;rfl);let(fn24,ZX,ZY):=PX (P:=l.prog) (w:=w) (base:=base) T n i ZW ZV ZT ZS Xr;let ZZ:=Wr.ok X G Xr ZX λ_ _ _ _ _ _ c b=>(by let(u,v,rfl):=fJ b;rfl);let(fn25,Z5,XR):=K6 (P:=l.prog) (w:=w) (base:=base) T n i ZQ ZP ZZ ZY Xs;let XS:=Ws.ok X G Xs Z5 λ_ _ _ _ _ _ c b=>(by let(u,v,rfl):=fJ b;rfl);let(fn26,Z6,Z7):=Jv (P:=l.prog) (w:=w) (base:=base) T Xt;let Z8:=Wt.ok X G Xt Z6 λ_ _ _ _ _ _ c b=>(by let(u,v,w,rfl):=nG b;rfl);let(fn27,Z9,s_bq):=Lj (P:=l.prog) (w:=w) (base:=base) T Z8 Z7 Xu;let d_bq:=Wu.ok X G Xu Z9 λ_ _ _ _ _ _ c b=>(by let(u,v,w,rfl):=nG b;rfl);let(fn28,o_br,s_br):=T8 (P:=l.prog) (w:=w) (base:=base) T n d_bq s_bq Xv;let d_br:=Wv.ok X G Xv o_br λ_ _ _ _ _ _ c b=>(by let(u,v,rfl):=fJ b;rfl);let(fn29,o_bs,s_bs):=Oe (P:=l.prog) (w:=w) (base:=base) T n d_br s_br Xw;let d_bs:=Ww.ok X G Xw o_bs λ_ _ _ _ _ _ c b=>(by let(u,rfl):=cv b;rfl);let(fn30,o_bt,s_bt):=Tp (P:=l.prog) (w:=w) (base:=base) T n Xx;let d_bt:=Wx.ok X G Xx o_bt λ_ _ _ _ _ _ c b=>(by let(u,rfl):=cv b;rfl);let(fn31,o_bu,s_bu):=Sy (P:=l.prog) (w:=w) (base:=base) T Xy;let d_bu:=Wy.ok X G Xy o_bu λ_ _ _ _ _ _ c b=>(by let(u,v,w,x,rfl):=Jd b;rfl);let(fn32,o_bv,s_bv):=RJ (P:=l.prog) (w:=w) (base:=base) T i d_bu s_bu Xz;let d_bv:=Wz.ok X G Xz o_bv λ_ _ _ _ _ _ c b=>(by let(u,v,w,rfl):=nG b;rfl);let(fn33,o_bw,s_bw):=K1 (P:=l.prog) (w:=w) (base:=base) T n i XS XR d_bt s_bt d_bs s_bs d_bv s_bv XA;let d_bw:=WC.ok X G XA o_bw λ_ _ _ _ _ _ c b=>(by let(u,rfl):=cv b;rfl);let(fn34,o_bx,XT):=UT (P:=l.prog) (w:=w) (base:=base) T XB;let XU:=WG.ok X G XB o_bx λ_ _ _ _ _ _ c b=>(by let(u,rfl):=cv b;rfl);let(fn35,o_by,s_by):=ND (P:=l.prog) (w:=w) (base:=base) T XU XT XC;let d_by:=WH.ok X G XC o_by λ_ _ _ _ _ _ c b=>(by let(u,rfl):=cv b;rfl);let(fn36,o_bz,s_bz):=Qq (P:=l.prog) (w:=w) (base:=base) T XD;let d_bz:=WI.ok X G XD o_bz λ_ _ _ _ _ _ c b=>(by let(u,rfl):=cv b;rfl);let d_au:=V'.ok (sp:=(ay K iP)) X G W' (Pw (P:=l.prog) (w:=w) (base:=base) T W') λ_ _ _ _ _ _ c b=>(by let(u,rfl):=cv b;rfl);let(fn37,o_aw,s_aw):=Qt (P:=l.prog) (w:=w) (base:=base) T Xb;let d_aw:=Wb.ok X G Xb o_aw λ_ _ _ _ _ _ c b=>(by let(u,rfl):=cv b;rfl);let(fn38,o_av,s_av):=MQ (P:=l.prog) (w:=w) (base:=base) T gR XH XG d_au Xa;let d_av:=Wa.ok X G Xa o_av λ_ _ _ _ _ _ c b=>(by let(u,rfl):=cv b;rfl);let(fn39,o_ax,s_ax):=Md (P:=l.prog) (w:=w) (base:=base) T Xc;let d_ax:=Wc.ok X G Xc o_ax λ_ _ _ _ _ _ c b=>(by let(u,v,rfl):=fJ b;rfl);let(fn40,o_ay,s_ay):=Vt (P:=l.prog) (w:=w) (base:=base) T Xd;let d_ay:=Wd.ok X G Xd o_ay λ_ _ _ _ _ _ c b=>(by let(u,v,rfl):=fJ b;rfl);let(fn41,o_az,s_az):=N6 (P:=l.prog) (w:=w) (base:=base) T n d_ax s_ax d_ay s_ay Xe;let d_az:=We.ok X G Xe o_az λ_ _ _ _ _ _ c b=>(by let(u,v,rfl):=fJ b;rfl);let(fn42,o_ba,s_ba):=Mh (P:=l.prog) (w:=w) (base:=base) T n gM d_av s_av d_az s_az d_aw s_aw Xf;let d_ba:=Wf.ok X G Xf o_ba λ_ _ _ _ _ _ c b=>(by let(u,rfl):=cv b;rfl);let(fn43,o_bb,s_bb):=JN (P:=l.prog) (w:=w) (base:=base) T Xg;let d_bb:=Wg.ok X G Xg o_bb λ_ _ _ _ _ _ c b=>(by let(u,rfl):=cv b;rfl);let(fn44,o_bc,s_bc):=Kk (P:=l.prog) (w:=w) (base:=base) T d_bb s_bb XN XM Xh;let d_bc:=Wh.ok X G Xh o_bc λ_ _ _ _ _ _ c b=>(by let(u,rfl):=cv b;rfl);let(fn45,o_bd,s_bd):=Mm (P:=l.prog) (w:=w) (base:=base) T gG Xi;let d_bd:=Wi.ok X G Xi o_bd λ_ _ _ _ _ _ c b=>(by let(u,rfl):=cv b;rfl);let(fn46,o_be,s_be):=Qk (P:=l.prog) (w:=w) (base:=base) T d_bd s_bd Xj;let d_be:=Wj.ok X G Xj o_be λ_ _ _ _ _ _ c b=>(by let(u,rfl):=cv b;rfl);let(fn47,o_bf,s_bf):=U2 (P:=l.prog) (w:=w) (base:=base) T d_be s_be d_ba s_ba XQ XO Xk;let d_bf:=Wk.ok X G Xk o_bf λ_ _ _ _ _ _ c b=>(by let(u,rfl):=cv b;rfl);let o:=Wl.ok (sp:=(ay K iP)) X G Xl (R9 (P:=l.prog) (w:=w) (base:=base) T Xl) λ_ _ _ _ _ _ c b=>(by let(u,rfl):=cv b;rfl);let dS0:aN l.prog w K mg base "_law_same" 1 (ay K λ_=>al):=g.ok (ps:=["_law_found","_law_due"]) X G f NH λ_ _ _ _ _ _ c b=>(by let(u,v,rfl):=fJ b;rfl);let(fnS1,oS1,sS1):=vZ (P:=l.prog) (w:=w) (base:=base) (k:=0) (sh:=(λ_=>false)) T dS0 (λd hd=>by$$$hd) o f;let dS1:aN l.prog w K mg base "_law_same" 2 (ay K fnS1):=g.ok X G f oS1 λ_ _ _ _ _ _ c b=>(by let(u,v,rfl):=fJ b;rfl);let(fnS2,oS2,sS2):=vZ (P:=l.prog) (w:=w) (base:=base) (k:=1) (sh:=gu) T dS1 (λd hd=>sS1 d (by$$$d<;>first|$hd|$$$hd)) o f;let dS2:aN l.prog w K mg base "_law_same" 3 (ay K fnS2):=g.ok X G f oS2 λ_ _ _ _ _ _ c b=>(by let(u,v,rfl):=fJ b;rfl);let(fnS3,oS3,sS3):=vZ (P:=l.prog) (w:=w) (base:=base) (k:=2) (sh:=(dF gu)) T dS2 sS2 o f;let dS3:aN l.prog w K mg base "_law_same" 4 (ay K fnS3):=g.ok X G f oS3 λ_ _ _ _ _ _ c b=>(by let(u,v,rfl):=fJ b;rfl);let(fnS4,oS4,sS4):=vZ (P:=l.prog) (w:=w) (base:=base) (k:=3) (sh:=(dF<|dF gu)) T dS3 sS3 o f;let dS4:aN l.prog w K mg base "_law_same" 5 (ay K fnS4):=g.ok X G f oS4 λ_ _ _ _ _ _ c b=>(by let(u,v,rfl):=fJ b;rfl);let(fnL,oL,sL):=VW (P:=l.prog) (w:=w) (base:=base) T n ⟨d_bc,s_bc,dS4,sS4,XN,XM,d_bf,s_bf,XQ,XO,d_bz,s_bz⟩ ⟨YY,XU,XT,d_by,s_by,d_bw,s_bw,XS,XR⟩ XF;$(oL.imp<|QB sL)
def walk{l:acG}{q:hE}{b:List ew}{i:(ew->Option bt)->k7->Prop}{c:iR->k7->Prop}{d:DefRec}{K:Params->e6}(j:l.most=ac 63)(e:d.params.defaults=[])
 (m:∀(w:iR) (h:k7),c w h->(K w.params).In h)
 (F:∀(w:iR) (mg:ew->Option bt) (fa:cA) (h:k7),(K w.params).In h->h.Ns hI mg->mg d.name=ac (.ref fa) ->
   ∃g:gi,(∀(s:dq) (u:bt),adu s g {[u],[]} [("_law_script",u)])/\∀base:k7,(K w.params).In base->base.Ns hI mg->aS l.prog w (K w.params) mg base aT 8 fa g ["_law_script"] (uJ<|K w.params)) :
  W.WalkO q b i c l.row.toRowW d [] (λf vs=>PySem.call f vs) :=
 Vb (n:=63) (k:=8) (x:="_law_script") (CX:=λ_=>aT) (sp:=λw=>uJ<|K w.params) j ⋯ e {ρ,⋯,⋯} m F (λ_ _ a ns o _ p=>{a,ns,ρ,p,o,λ_=>rfl}) λ_ _ _ _ _ z=>z
end
end L2
open PySem PySem.W PyProof.Rows
local macro_rules | `(tactic| walk_at "df") => `(tactic| (refine' ⟨_, L2.Qg ?l ?c ?k⟩; (case l => k_is); (case c => k_is); (case k => k_is)))
local macro_rules | `(tactic| walk_at "di") => `(tactic| (refine' L2.DI.mk ?a ?b ?c; (case a => k_is); (case b => walk_at "df"); (case c => first | k_is | kit_is)))
section
namespace PySem.W.Fast
open Lean in
local macro_rules|`(example:=0)=>do
 let t:=`PySem.Challenge.cw_roomtouch_k52_read_holds
 return mkNullNode (← ([`PySem.Challenge.pw_roomtouch_k52_read,`PySem.Challenge.rw_roomtouch_k52_read]++((List.range 422).map (s!"o_{·}")++"env_41 heap_39 heap_422 heap_46 sts_124 sts_205 sts_284 sts_362 sts_49 sts_64 sts_79 tree_123 tree_204 tree_283 tree_361 tree_421 tree_47 tree_63 tree_78 view_39".splitOn " ").map t.str).mapM λn=>`(def $(mkIdent<|.mkSimple s!"tw{n.hash}"):ident:=())).toArray
example:=0
end PySem.W.Fast
end
set_option maxRecDepth 100000 in
set_option maxHeartbeats 0 in
theorem PySem.Challenge.cw_roomtouch_k52_read_holds : PySem.Challenge.rw_roomtouch_k52_read.Holds := by
  w_on; o_law; k_head; (case hw => w_witness2)
  k_fill
  refine L2.walk (l := PySem.Challenge.rw_roomtouch_k52_read) rfl rfl (fun w h Y => W.kIn_of Y) ?F
  case F =>
    intro w mg fa h b G a
    apply L2.all_mk b G a
    all_goals try first | k_is | kit_is | k_exc | kts_exm | walk_at "df" | walk_at "di"
