import PyProof.Rows.All
import Wide.All
import OpenK.AllK
import PySem.Challenge.RW_roomtouch_k22_tintings_read_off
set_option Elab.async false
set_option linter.all false
set_option compiler.extract_closed false
set_option genSizeOf false
set_option maxRecDepth 100000
set_option maxHeartbeats 4000000
local macro_rules | `(⋯)=>`(by first|decide|simp|omega|lia)
local macro_rules | `(∅)=>`(by first|omega|(unfold PySem.sizeLine;first|omega|decide))
local macro_rules (kind:=«term{_}») | `({$l,*})=>`(⟨$l,*⟩)
open Lean Parser in
def Mp(l:Array Syntax):Syntax:=.node .none ``Tactic.rcasesPatLo #[.node .none ``Tactic.rcasesPatMed #[.node .none `null l],.node .none `null #[]]
section
variable {α β γ δ:Sort _}{G a b c d e f:Prop}{A B C D E F:α→Prop}{P Q R S M N:α→β→Prop}{T U V W:α→β→γ→Prop}{X Y:α→β→γ→δ→Prop}
theorem zsA(h:a∧b)(k:a→b→G):G:=k h.1 h.2
theorem zsE(h:∃x,A x)(k:∀x,A x→G):G:=h.elim k
theorem zsAA(h:a∧b∧c)(k:a→b→c→G):G:=zsA h.2 (k h.1)
theorem zsEA(h:∃x,A x∧B x)(k:∀x,A x→B x→G):G:=h.elim λx h=>zsA h (k x)
theorem zsEE(h:∃x y,P x y)(k:∀x y,P x y→G):G:=h.elim λx h=>zsE h (k x)
theorem zsAAA(h:a∧b∧c∧d)(k:a→b→c→d→G):G:=zsAA h.2 (k h.1)
theorem zsAEA(h:a∧∃x,A x∧B x)(k:a→∀x,A x→B x→G):G:=zsEA h.2 (k h.1)
theorem zsEAA(h:∃x,A x∧B x∧C x)(k:∀x,A x→B x→C x→G):G:=h.elim λx h=>zsAA h (k x)
theorem zsEEA(h:∃x y,P x y∧Q x y)(k:∀x y,P x y→Q x y→G):G:=h.elim λx h=>zsEA h (k x)
theorem zsEEE(h:∃x y z,T x y z)(k:∀x y z,T x y z→G):G:=h.elim λx h=>zsEE h (k x)
theorem zsAAAA(h:a∧b∧c∧d∧e)(k:a→b→c→d→e→G):G:=zsAAA h.2 (k h.1)
theorem zsAEEA(h:a∧∃x y,P x y∧Q x y)(k:a→∀x y,P x y→Q x y→G):G:=zsEEA h.2 (k h.1)
theorem zsEAAA(h:∃x,A x∧B x∧C x∧D x)(k:∀x,A x→B x→C x→D x→G):G:=h.elim λx h=>zsAAA h (k x)
theorem zsEEAA(h:∃x y,P x y∧Q x y∧R x y)(k:∀x y,P x y→Q x y→R x y→G):G:=h.elim λx h=>zsEAA h (k x)
theorem zsEEEA(h:∃x y z,T x y z∧U x y z)(k:∀x y z,T x y z→U x y z→G):G:=h.elim λx h=>zsEEA h (k x)
theorem zsEAAAA(h:∃x,A x∧B x∧C x∧D x∧E x)(k:∀x,A x→B x→C x→D x→E x→G):G:=h.elim λx h=>zsAAAA h (k x)
theorem zsEEEEA(h:∃x y z w,X x y z w∧Y x y z w)(k:∀x y z w,X x y z w→Y x y z w→G):G:=h.elim λx h=>zsEEEA h (k x)
end
open Lean Parser Tactic in
def Mo(n:Nat)(s:Syntax):Syntax:=match n with
 |0=>s
 |n+1=>match s.getKind with
  |``Term.hole=>.node .none ``rcasesPat.ignore #[s[0]]
  |``Term.tuple=>.node .none ``rcasesPat.tuple #[.atom .none "⟨",.node .none `null ((#[s[1][0],s[1][1]]++s[1][2].getArgs).map λx=>if x.isAtom then x else Mp #[Mo n x]),.atom .none "⟩"]
  |`«term_||_»=>let p:=Mo n s[0];.node .none ``rcasesPat.paren #[.atom .none "(",Mp<|(if s[0].isOfKind `«term_||_» then p[1][0][0].getArgs else #[p])++#[.atom .none "|",Mo n s[2]],.atom .none ")"]
  |``Term.paren=>Mo n s[1]
  |_=>.node .none ``rcasesPat.one #[s]
open Lean Parser Tactic in
def Mz(p e:Syntax):Syntax:=
 let N:=Syntax.node .none;let L:=N `null;let w:=.atom .none "";let A:=λk l=>N k (#[w]++l);let q:=λl=>N ``tacticSeq #[N ``tacticSeq1Indented #[L l]]
 let l:=p[1][0]::p[1][2].getArgs.toList.filter (!·.isAtom)
 "A E AA EA EE AAA AEA EAA EEA EEE AAAA AEEA EAAA EEAA EEEA EAAAA EEEEA".splitOn.foldl (λo s=>let k:=s.length
  if !p.isOfKind ``Term.tuple||l.length≤k then o else
  let j:=λl=>l.intersperse w
  let x:=if l.length=k+1 then l else l.take k++[A ``Term.tuple #[L #[l[k]!,w,L (j (l.drop (k+1))).toArray],w]]
  let b:=λx:Syntax=>x.isOfKind ``Term.hole||x.isIdent&&x.getId !=`rfl
  let y:=x.zipIdx.map λ(x,i)=>if b x then x else mkIdent (.mkSimple s!"✝{i}")
  let f:=N ``Term.app #[mkIdent (.mkSimple ("zs"++s)),L #[e,A ``Term.syntheticHole #[A ``Term.hole #[]]]]
  let c:=if e.isIdent then [A ``tacticTry_ #[q #[A ``clear #[L #[e]]]]] else []
  A ``first #[L #[A `group #[q (j (A ``refine #[f]::c++A ``intro #[L y.toArray]::(x.zip y).filterMap λ(x,y)=>if b x then none else some (A ``tacticLet__ #[N ``Term.letConfig #[L #[]],N ``Term.letDecl #[N ``Term.letPatDecl #[x,L #[],L #[],w,y]]]))).toArray],A `group #[q #[o]]]])
  (A ``obtain #[L #[N ``rcasesPatMed #[L #[Mo 99 p]]],L #[],L #[w,L #[e]]])
local macro_rules (kind:=Lean.Parser.Tactic.tacticLet__)|s=>let d:=s[2][0];if d.isOfKind ``Lean.Parser.Term.letPatDecl then return Mz d[0] d[4] else Lean.Macro.throwUnsupported
open Lean Parser in
def Hh:Nat->Syntax->Bool
 |n+1,.node _ k a=>k==``Term.syntheticHole||k !=``Term.byTactic&&a.any (Hh n)
 |_,_=>false
open Lean Parser Tactic in
def Mx:Nat->Syntax->Syntax
 |n+1,.node i k a=>
  let a:=a.map (Mx n);let N:=Syntax.node .none;let L:=N `null;let O:=L #[];let w:=.atom .none "";let e:=a.getD 1 w;let A:=λk l=>N k (#[w]++l);let R:=λi p e=>A ``tacticLet__ #[N ``Term.letConfig i,N ``Term.letDecl #[N ``Term.letPatDecl #[p,O,O,w,e]]];let q:=k==`tactic.pseudo.antiquot
  if q||k==``tacticSeq++`antiquot then
   let t:=a[2]!;let p:=t.isOfKind `antiquotNestedExpr;let t:=if p then t[1] else t
   let t:=match e.getNumArgs with
   |0=>if t.isAtom then A ``omega #[N ``optConfig #[O]] else if t.isOfKind `str then A `PyProof.Rows.tacticWalk_at_ #[t] else A (if Hh n t then ``refine else ``exact) #[t]
   |1=>if p then A ``unfold #[L #[t],O] else A ``subst #[L #[t]]
   |2=>if p then A ``refine' #[t] else A ``cases #[L #[N ``elimTarget #[O,t]],O,O]
   |3=>A ``simpa #[O,O,N ``simpaArgsRest #[N ``optConfig #[O],O,O,O,L #[w,t]]]
   |4=>A ``split #[O,L #[A ``location #[N ``locationHyp #[L #[t],O]]]]
   |_=>R #[O] (mkIdent `rfl) (N ``Term.app #[mkIdent `sO,L #[t]])
   if q then t else N ``tacticSeq #[N ``tacticSeq1Indented #[L #[t]]]
  else if k==choiceKind&&a.back!.isOfKind ``tacticSeq then a.back!
  else if k==``tacticLet__ then
   let d:=a[2]![0];if d.isOfKind ``Term.letIdDecl then (if d[0][0].getId==`rfl then R e.getArgs d[0][0] d[4] else A ``tacticHave__ #[e,a[2]!]) else .node i k a
  else if k==``Elab.Tactic.Ext.ext then
   let b:=e[0];if b.isOfKind ``rintroPat.binder then A `«tacticBy_cases_:_» #[L #[b[1][0][0][0],w],b[2][1]] else A ``rintro #[e,O]
  else if k==``Elab.Tactic.Ext.tacticExt1___ then A ``renameI #[L<|e.getArgs.map λp=>N ``binderIdent #[p[0][0]]]
  else if k==``simpAutoUnfold then .node i ``simpAll a.pop
  else if k==``simpTrace then let r:=a[2]!;A ``simp #[r[0],r[1],L #[w],L r[3][0].getArgs,r[4]]
  else if k==``dsimp then .node i k (a.set! 3 (L #[w]))
  else if k==`PySem.W.tacticLk then A ``contradiction #[]
  else .node i k a
 |_,s=>s
open Lean Parser Command in
def Md(s:Syntax):MacroM Syntax:=match s with
 |.node .none k a=>
  if a[0]![6].getNumArgs>0||(`PySem).isPrefixOf a[1]![1][0].getId then Macro.throwUnsupported else
  let a:=a.map (Mx 999);return .node (.synthetic 0 0) k<|if [``definition,``«abbrev»,``«instance»].contains a[1]!.getKind then a.modify 0 λm=>m.setArg 4 (.node .none `null #[.node .none ``«noncomputable» #[.atom .none ""]]) else a
 |_=>Macro.throwUnsupported
open List renaming mem_map->ae,length_map->a8,getElem?_eq_getElem->bt,getElem?_eq_some_iff->cn,getElem?_map->dk,mem_of_getElem?->eH,mem_append->eK,length_append->eR,mem_cons->eW,map_map->eX,mem_cons_of_mem->fk,mem_cons_self->fm,map_append->fv,pairwise_map->gd,mergeSort_perm->gk,size_toArray->gs,not_mem_nil->gW,length_cons->g8,range->hE,mem_filter->hG,map_cons->hH,mem_range->hI,mem_flatMap->hY,perm_ext_iff_of_nodup->iR,length_take->iW,nodup_append->ka,mem_singleton->kn,getElem?_append_right->kq,all_eq_true->kz,getElem_of_mem->kA,getElem?_append_left->kH,take_length->lq,getD_eq_getElem?_getD->l4,countP_cons->ma,length_range->me,getElem?_set_ne->mu,replicate->nE,append_nil->nS,append_assoc->pw,length_filter_le->px,mem_filterMap->pz,pairwise_iff_getElem->pA,length_pos_iff->pB,countP_append->qe,filter_sublist->qh,nodup_cons->qo,countP_map->qp,getElem?_set_self->qz,mem_append_right->r0,length_drop->tm,map_eq_nil_iff->tz,map_congr_left->t9,pairwise_mergeSort->ub,countP_eq_length_filter->wy,getElem_map->za,filter_cons->zb,any_eq_true->zc,countP_congr->z0,length_reverse->z3,mem_of_find?_eq_some->z7,getElem_mem->GD,getElem_inj->He,length_set->LK,countP_eq_zero->LS,mem_reverse->P',pairwise_cons->Rg,take_append_drop->R',cons_lt_cons_iff->SH,not_lt->XP,lookup_cons->aab,length_eq_zero_iff->aac,map_mergeSort->aan,find?_eq_none->aao,length_nil->aaw,map_drop->aax,getElem?_eq_none->aaA,pairwise_append->aaK,nodup_nil->aaL,mem_of_mem_drop->aaM,count_nil->aaN,map_reverse->aaQ,exists_mem_of_ne_nil->aaX,getElem?_range->aaZ,flatMap_append->aa0,filterMap_cons->aa1,sum_cons->aa5,any_cons->aa6,find?_some->aa7,count_cons->aa8,findIdx?_eq_some_iff_getElem->aba,take_zero->abc,take_sublist->abd,lt_irrefl->abe,perm_append_comm->abm,length_singleton->abn,le_antisymm->abr,map_take->aby,mem_of_mem_take->abC,mem_append_left->abD,sum_append->abG,range_succ->abH,foldl_cons->abI,find?_cons->abJ,mem_map_of_mem->abO,map_nil->abS,map_id'->abT,getElem?_zip_eq_some->ab7,reverse_cons->ab',filter_congr->aca,count_append->acb,pairwise_singleton->acr,nodup_range->acs,getElem?_replicate->acu,toArray->acC,take_of_length_le->acD,Nodup->acE,forIn_cons->acI,length_replicate->acM,getElem?_toArray->acN,countP_le_length->acO,filter_eq_self->acW,lt_trans->ac0,zip_cons_cons->ac5,getElem?_drop->ac6,filter_append->ac7,count_eq_zero->ac8,reverse_perm->adm,pairwise_iff_forall_sublist->adn,flatMap_cons->ado,any_map->adp,any_eq_false->adq,singleton_perm_singleton->adN,of_mem_zip->adU,take_succ->aed,perm_append_singleton->aee,length_eraseIdx_of_lt->aef,drop_eq_getElem_cons->aem,getElem?_take_of_lt->aeq,all_cons->aer,pairwise_filterMap->aeA,getElem?_cons_succ->aeB,range_succ_eq_map->aeD,pairwise_reverse->aeO,pairwise_flatMap->aeP,mem_iff_getElem?->aeQ,countP_singleton->aeR,mem_erase_of_ne->aeY,length_eraseIdx->aeZ,countP->ae0,replicate_succ->afd,mem_mergeSort->afl,getElem?_take->afm,findIdx?_cons->afn,count_pos_iff->afo,foldl_append->afJ,ext_getElem?->afK,all_eq_false->afL,range'_succ->afS,map_snd_zip->afT,flatMap_def->afU,ext_getElem->afV,drop_length->afW,filter_map->agc,find?_map->agk,take_nil->agC,drop_nil->agD,sum_nil->agV,all_map->agW,count->ahO
open PySem renaming wpAny_bind->bg,Value->cm,Shared->cA,sizeLine->c6,Addr->dn,wpAny_pure->dr,Str->eS,wpAny->gj,Expr->hF,model->hM,FuncData->hO,mainGlobals->hQ,Program->hZ,starEach->km,tupleKeyHash->k7,Heap->nk,compareOp->nr,World->nL,Around->ow,wpAny_holding->pl,IsTupleKey->pq,wpAny_newObj_type->rp,wpAny_call_entry->se,SetTable->ti,foldedSetIterable->um,Pos->u1,cLine->u2,assignEach->u3,codeAny_builtin->vv,wpAny_setState_of->wa,sizeLine_eq->wm,behindInMarks->xn,Obj->zI,wpAny_truthy_bool->z5,wpAny_mono->z6,swapsWith->z8,wpAny_callSpecial?_slot->L1,sysModules->NN,backTo->T',wpAny_pyIter_list->ZG,bootBuiltins->ZH,Builtin->ZI,attributeBase->aae,Scope->aah,wpAny_setField->aaq,binaryOp->aar,Stmt->aas,wpAny_typeNameOfWhole_keyiter->aay,holding->aaB,codeAny_mono->aaC,wpAny_passesOwn->aaI,plainId_quiet->aaJ,Paired->aaO,mem_of_lookup->aaR,pyNext->aa2,rawInt->aa9,wpAny_typeNameOf_keyiter->abb,DictEntry->abk,wpAny_loadPart_at->abt,codeAny->abu,wpAny_eqBool_str->abK,assign->abL,sliceBounds->abU,wpAny_ite_split->abZ,wpAny_execs_nil->ab0,wpAny_typeOf->ab8,wpAny_seqItems->acj,wpAny_Call_Name_kw->ack,typeLookup->acm,tupleKind_room_in1->acn,call_meets->aco,wpAny_dictEntries->acz,lastMarks->acP,GenState->acQ,shortFactorBits->acT,letOwnedTupleGo->acU,wpAny_pyIter_keyiter->ac9,wpAny_fieldsOf->ac',codeAny_call_builtin->ada,carriedByValue->adb,NameKind->ade,getItem->adj,PassesOwn->adk,wpAny_setEntries_of->adt,wpAny_standAt->adB,wpAny_newList->adC,wpAny_attempt->adD,ExceptHandler->adG,Result->adL,standAt->adX,slot_list_getitem->adY,relabel->adZ,ofAClassStatement->ad0,boot_len->ad1,wpAny_isInstance->aeh,wpAny_askSetting->aei,tupleKind->aej,IsPart->aek,subscripted->aen,wpAny_updateSeq->aes,wpAny_specialOf->aet,wpAny_dictEpoch->aeu,isTrue->aeE,bindArgs->aeF,CmpOp->aeK,wpAny_getItem_list_slice->ae2,wpAny_comprehension_free->ae3,swapsWithSole->ae4,swappedStores->ae5,evalPart_none->ae6,bindL->afi,bindC->afj,valueAt->afp,setItem->afq,seqIndex_neg->afr,pyIter->afs,merged->aft,concat_meets->afu,callerA->afv,ExcBaseFacts->afB,BindsTo->afC,wpAny_notOrdered_dict->afM,wpAny_isSame_ref_self->afN,wpAny_isOneOf_keyiter->afO,wpAny_eqIsQuiet_tuple->afP,builtinLookup_eq_fast->afQ,wpAny_of_eq->afY,wpAny_field->afZ,seqIndex_of->af0,getAttr?->af1,atKey->af2,wpAny_load->agl,wpAny_eqBool_tuple->agm,wpAny_call->agn,wpAny_Name->ago,typeIs_int->agp,truthy->agq,getattributeRaised->agr,checkCount->ags,builtinsNs->agt,wpAny_storeSet_of->agH,wpAny_setEpoch_of->agI,wpAny_pyIter_slot->agJ,wpAny_pyIter_enum->agK,wpAny_assign_Name->agL,searchCouldBeSeen->agM,Keyword->agO,wpAny_pyIter_zip->agX,wpAny_forIn_list->agY,wpAny_execs_cons->agZ,wpAny_eqBool_int->ag0,wpAny_Dict_empty->ag1,updateSeq->ag2,scanBound->ag3,pickOrder->ag5,noFill_tuple_add->ag6,entryFor_of_tree->ag7,checkBuiltinCall->ag8,cellsFrom->ag9,typeLookup_type->ahr,wpAny_runValue->ahR,wpAny_newTuple->ahS,setRelay->ahT,raiseNew->ahV,isSubtype_type->ahX,isSubtype_stop->ahY,firstArgMember->ahZ,entryFor->ah0,bitsLine->ah1,wpAny_handled->ah',setSearchFrom->aia,seq_tuple_add->aib,evalPart_some->aic,call_list_seq->aid
open PySem.Heap renaming get?_push_of_some->eu,lt_size->fj,get?_push_size->gi,get?_update_other->sW,get?_update_self->ua,SameBut->L',size_push->abY,size_update->adF,get?_none_of_le->aeU,ExtBut->aeV,get?_push_ne->afA
open Nat renaming le_refl->eT,ne_of_lt->gD,lt_of_lt_of_le->iN,zero_le->nT,le_trans->n5,le_of_lt_succ->rk,lt_irrefl->uz,lt_of_le_of_lt->xr,not_lt_zero->z4,mod_eq_of_lt->aaf,mod_lt->aat,zero_add->aaS,lt_trans->aaT,lt_succ_self->aaU,le_of_lt->aaV,le_add_right->aaW,succ_pos->abg,ne_of_gt->abh,lt_succ_of_lt->abi,le_of_eq->abj,add_sub_cancel'->abR,succ_mul->abV,lt_trichotomy->acg,le_succ->ach,mod_self->acH,sub_self->adz,add_comm->adA,div_div_eq_div_mul->aeN,mul_le_mul_right->afb,le_zero->afc,min_le_right->aga,div_eq_of_lt->agb,min_eq_left->agj,mul_le_mul->agB,pow_zero->aho,pow_succ->ahp,log2_lt->ahL,div_one->ahM,add_mod->ahN,not_lt->ah9
open Bool renaming true->bi,false->bn,and_eq_true->e8,false_eq_true->kB,and_eq_true_iff->l5,not_eq_true'->pe,eq_iff_iff->ph,false_ne_true->s9,not_eq_true->zd,and_false->aad,not_eq_false'->aap,true_and->abz,eq_false_iff->acd,not_true->ac1,and_comm->ac2,or_eq_true->adW,false_and->aeg,and_eq_false_iff->aeS,false_or->agF
open Option renaming some->al,none->am,map_eq_some_iff->ft,bind_some->mv,map_some->v3,isSome_iff_exists->W0,isSome_map->ac4
open PySem.W renaming Frag->f',mg_none_of->p5,nsIn->vT,mg_of->ZE,kitOne->aak,kia_one->ab6,hideAll_get->acv,keepIn->acF,KatTups->acG,fnOf->adu,findIn->adJ,kas_rev->ad2,mroIn->aeo,excIn->aep,looks_findIn->aev,hideAll_none->aew,of_hideAll->ae7,clsIn->ae8,methodObj->afw,kitAny->afx,OpenLaw->afR,kat_cons->af3,Looks->agg,hideAll->agu,funFrames_hide->agv,cellsFrom_some->agw,kat_no->ag',kat_lt->aha,kas_sort->ahb,exmOne->ahc,codeIn->ahd,looks_mroIn->ahs,callWith_K->ah2
open Array renaming getElem?_toList->gf,length_toList->hS,getElem?_eq_getElem->ib,getD_eq_getD_getElem?->oy,getElem?_eq_some_iff->zR,size_map->aaa,toList_append->aaY,mem_toList_iff->abA,toList_filterMap->acx,getElem?_eq_none->acy,all_eq_true'->ac3,toList_push->adi,replicate->adO,perm_iff_toList_perm->ad',getElem?_map->aff,forIn_toList->afg,append_assoc->afh,size_push->afX,toList->agG
open PySem.Str renaming ofString->ia,empty->aaz,cps_append->abf,join->ae9
open List.Pairwise renaming sublist->md,imp_of_mem->aaF,and_mem->ab4,nil->acJ
open PySem.Value renaming ref->mA,none->ql,bool->H9,str->Ts,type->abl,builtin->abp,int->abQ,isStrOf->agh,isInt->agN
open PySem.SeqAt renaming canLay_of_shaped->qt,readOf->abM,shaped->aey
open PyProof.Rows.F renaming plain_set_update_loop->qy,entry_set_update_loop->Cs
open PySem.Builtin.Int renaming intBits->ro,intTooBig->ab9
open Classical renaming byContradiction->r4
open PySem.Around renaming under_plainId->r6
open PySem.PyData renaming strOk->sj,eqv->aai,canLay0->aaG,canLayAll0->ab1,depthAll->adE,eqvAll->af4
open PySem.Heap.SameBut renaming update->sH
open Sum renaming inr->uy,inl->ads
open PySem.Builtin.Str renaming occurrences->z9
open PySem.Obj renaming data_mapFields->Hz,mapSeq->ZF,isFreed_of_fields->abq,mapFields->abB,putSet->ab2,cls_mapFields->adx
open PyProof.Rows renaming callWith_type1->HT,slot_tuple_getitem->aaj,seqObj->aaE,envOfC->abw,IsTup->abx,kindOf->ab3,room_in_shaped->acq,StrsAre->acB,AllBare->acS,entry_list_sort->acV,slot_list_sort->adf,args_list_sort->adg,Subscript_->aeM,subscriptTail->ae',strKind_oneLt->afa,subscriptTail_builtinR->afD,plain_sorted->afE,keyKind_strs->afF,entry_sorted->afG,args_sorted1->afH,kind_sorted->af9,arrOf->af',size_push'->agz,keyLt'->agA,IntsAre->agU,list_sort_treeK->ahI,get?_update_seq->ahJ,callWith_builtin1->ahK,tail_any->ah5,sortedHeap_old->ah6,slicePart_none->ah7,sortedHeap_at->aii,listUpdate_at->aij
open False renaming elim->KX
open PySem.F renaming slot_dict_keyiterator_next->L0,called_set->P2,plain_extend_loop->Rr,plainAttrs_list->aa4,excAttr_ValueError->abN,typeOf_object_class->acR,entry_extend_loop->adQ,args_tuple_add_2->ad5,args_dict_keyiterator_next_1->ad6,plain_list_iadd->aea,entry_tuple_add->aeb,entry_dict_keyiterator_next->aec,slot_tuple_add->ael,slot_tuple_index->aeG,slot_list_getattribute->aeH,slot_list_extend->aeI,slot_list_append->aeJ,slot_list_index->aeW,slot_list_clear->aeX,slot_dict_iter->agy,slot_set_iter->agQ,slot_int_rmul->agR,slot_dict_len->agS,slot_gs_get->ahv
open PySem.SetTable renaming insertAt->Wb,runEnd->aa',toList_insertAt->abW,sizeAbove->ace,insertAt_perm->acf,Probe->acp,bits->adw,leap->ad4,sameMemory->aex,fill->afy
open List.Nodup renaming length_le_of_subset->YP
open Int renaming eq_ofNat_of_zero_le->aag,emod_lt_of_pos->aau,toNat_of_nonneg->aa3,mul_le_mul_of_nonneg_left->abE,emod_nonneg->abP,neg_lt_neg_iff->ab5,toNat_natCast->aci,sub_zero->acK,not_lt->acL,neg_inj->adV,le_antisymm->ad9,toNat->agd,mul_nonneg->agE,ne_of_lt->ahq,le_refl->ahQ
open PySem.SetTable.layClean renaming free->aal
open Prod renaming ext_iff->aam,snd->agi,ext->aik
open PySem.Builtin.Slice renaming slicePlaces->aav,sliceAdjust->abv,sliceApplied->acX,slicePartIndex->ahl,sliceFields->ahm
open PySem.Builtin.Tuple renaming tupleExact->aaD,tupleItemsOf->ahk
open PySem.Builtin.List renaming listTooLong->aaH,listLengthHint->acY,listExtendWith->acZ,listSameRef->adl,listFitsIndex->ahD
open PySem.Calls renaming call_function_entry->aaP,Name_function_global->ad7,callWith_builtin->aez,evalArgs_plain->aeL
open True renaming intro->abo
open Option.some renaming injEq->abF
open PySem.NameKind renaming free->abX,cell->afz
open PySem.Txt renaming join->acw
open PySem.Builtin.Dict_items renaming ownsTuple->acA
open List.Perm renaming of_eq->adh,swap->afe
open PySem.W.Looks renaming of_pure->adv,ld->agx
open PySem.Builtin.Dict renaming updateFrom->ady,pairItems->adH,showsAll->adM,selfAndRest->ahE,pendingCount->ahF,dictSlotNone->ahG,addKeywords->ahH
open Decidable renaming decide->bd,byContradiction->adI
open PySem.Setting renaming params->adK
open PySem.Heap.IsSliceOf renaming new->adP
open Or renaming inr->adS,inl->adT
open PySem.Spec renaming same->ad3
open Prod.mk renaming injEq->ad8
open PySem.Heap.DictOf renaming new->aeC
open PySem.PassesOwn renaming never->aeT
open ForInStep renaming yield->ae1
open PySem.Code renaming quiet_builtin->afk
open PyProof.Rows.IsTup renaming new->afI
open PySem.Builtin.Frozenset renaming updateFrom->af5,slot0->af6,sizeOf->af7,addrOf->af8
open Std.Legacy.Range renaming size->age,forIn_eq_forIn_range'->agf
open PySem.Heap.UpToSlots renaming of_keeps->agP
open PyProof.Rows.SortSt renaming mk'->agT
open PySem.EqMixed renaming eq_str_int->ahf,eq_str_bool->ahg,eq_int_str->ahh,eq_bool_str->ahi
open PySem.Data renaming fields->ahj
open PySem.Builtin.Range renaming rangeSize->ahn
open PySem.W.WData renaming int->aht
open PySem.SeqAt.RcNeAt renaming lists_lengths->ahu
open PySem.EqNone renaming eq_str_none->ahw,eq_none_str->ahx,eq_none_none->ahy,eq_none_int->ahz,eq_none_bool->ahA,eq_int_none->ahB,eq_bool_none->ahC
open List.Sublist renaming filterMap->ahP
open PySem.SeqAt.RcAt renaming lists_lengths->aie
open PySem.SeqAt.EqAt renaming str_int->aif,int_str->aih
open And renaming intro->ail
open PySem PySem.Spec PyProof.Rows
noncomputable section
local macro_rules (kind:=Lean.Parser.Command.declaration) |s=>Md s
theorem ι{a b:Prop}(h:a):a\/b:=.inl h
theorem τ{a b:Prop}(h:b):a\/b:=.inr h
theorem ρ{a:Sort u}{b:a}:b=b:=rfl
namespace L2
def nO (h:am=al a):P:=by$$$h
def sO (h:al a=al c):a=c:=by$$$h;rfl
def sP (h:al (a,b)=al (c,d)):a=c/\b=d:=by$$$h;$(⟨ρ,ρ⟩)
inductive OB {α β γ:Type}(o:Option (α×β)) (g:α×β->Option γ) (r:γ):Prop
 |mk (a:α) (b:β) (e:o=al (a,b)) (h:g (a,b)=al r)
inductive OA {α γ:Type}(o:Option α) (g:α->Option γ) (r:γ):Prop
 |mk (a:α) (e:o=al a) (h:g a=al r)
theorem oB (h:o.bind g=al r):OB o g r:=by
 cases o with
 |none=>$$$h
 |some p=>$(⟨p.1,p.2,ρ,h⟩)
theorem oA (h:o.bind g=al r):OA o g r:=by
 cases o with
 |none=>$$$h
 |some p=>$(⟨p,ρ,h⟩)
theorem oM (h:o.map g=al r):OA o (λx=>al<|g x) r:=by
 cases o with
 |none=>$$$h
 |some p=>$(⟨p,ρ,h⟩)
theorem oN (h:o.map g=al r):OB o (λx=>al<|g x) r:=by
 cases o with
 |none=>$$$h
 |some p=>$(⟨p.1,p.2,ρ,h⟩)
abbrev Key:=Sum Int eS
def kG:Key->cm->Bool
 |.inl k,v=>agN k v
 |.inr x,v=>agh x v
def ON(w:nL):Key->Int
 |.inl k=>hashInt k
 |.inr x=>hashStr w x
theorem jZ:∀{k:Key}{v:cm},kG k v=bi->(∃i t,k=ads i/\v=abQ i t)\/(∃x t,k=uy x/\v=Ts x t)
 |.inl i,v,h=>by let(t,e):=Value.isInt_shape h;$(ι ⟨i,t,ρ,e⟩)
 |.inr x,v,h=>by let(t,e):=Value.isStrOf_shape h;$(τ ⟨x,t,ρ,e⟩)
def O'(i)(t):kG (.inl i) (.int i t)=bi:=by simp[kG,agN]
def GL(x)(t):kG (.inr x) (.str x t)=bi:=by simp[kG,agh]
def NO(a b):bd ((ads a:Key)=ads b)=(a==b):=by grind
def UK(a b):bd ((uy a:Key)=uy b)=bd (a=b):=⋯
def Ms(a)(b):bd ((ads a:Key)=uy b)=bn:=decide_eq_false<|λq=>nomatch q
def LC(a)(b):bd ((uy a:Key)=ads b)=bn:=decide_eq_false<|λq=>nomatch q
def cZ(prog)(w):PySem.KeyKind prog w Key where
 is:=kG
 hash:=ON w
 inj:=λv a b f d=>by
  let(i,t,rfl,rfl)||(x,t,rfl,rfl):=jZ f
  .let (j,u,rfl,e)||(y,u,rfl,e):=jZ d;simp!;simp!
  let(j,u,rfl,e)||(y,u,rfl,e):=jZ d;simp!;simp!
 byValue:=λk v h=>by let(i,t,rfl,rfl)||(x,t,rfl,rfl):=jZ h<;>rfl
 pyHash:=λc h=>by
  let(i,t,rfl,rfl)||(x,t,rfl,rfl):=jZ c
  .$(wpAny_pyHash_int h)
  $(wpAny_pyHash_str h)
 eqBool:=λg c h=>by
  let(i,t,rfl,rfl)||(x,t,rfl,rfl):=jZ g
  .let (j,u,rfl,rfl)||(y,u,rfl,rfl):=jZ c
   .rw[NO]at h;$(ag0 h)
   rw[Ms]at h;$(aih i t y u _ _ _ _ h)
  let(j,u,rfl,rfl)||(y,u,rfl,rfl):=jZ c
  .rw[LC]at h;$(aif x t j u _ _ _ _ h)
  rw[UK]at h;$(abK h)
 «strs»:=λk x t v h=>by let(i,u,rfl,e)||(y,u,rfl,e):=jZ h;simp!;injection e with l _;$$l;$$$v<;>rfl
inductive V where
 |aG|bl (b:Bool)|int (i:Int)|str (x:eS)|j0 (b:Array UInt8)|zJ (b:UInt64)|ref (a:dn)|ty (n:String)
 deriving DecidableEq
def RelV:V->cm->Prop
 |.aG,u=>u=ql
 |.bl b,u=>u=H9 b
 |.int i,u=>∃t,u=abQ i t
 |.str x,u=>∃t,u=Ts x t
 |.j0 b,u=>∃t,u=Value.bytes b t
 |.zJ b,u=>∃t,u=Value.float b t
 |.ref a,u=>u=mA a
 |.ty n,u=>u=abl n
abbrev aO:List V->List cm->Prop:=aaO RelV
def aO.length (r:aO xs us):xs.length=us.length:=Paired.length r
theorem aO.get{xs:List V}{us:List cm}{i:Nat}{x:V}(h:aO xs us)(e:xs[i]?=al x):∃u,us[i]?=al u/\RelV x u:=by
 induction h generalizing i with
 |nil=>simp at e
 |cons r _ a =>
  cases i with
  |zero=>simp at e;$$e;$({_,ρ,r})
  |succ i=>$(a (i:=i) (by$$$$e))
theorem aO.set (r:RelV x u):∀{xs:List V}{us:List cm}(i:Nat),aO xs us->aO (xs.set i x) (us.set i u)
 |_,_,_,.nil=>.nil
 |_,_,0,.cons _ t=>.cons r t
 |_,_,i+1,.cons q t=>.cons q<|aO.set r i t
theorem aO.append (h:aO xs us)(s:aO ys a):aO (xs++ys) (us++a):=by
 induction h with
 |nil=>$s
 |cons r _ b=>$(.cons r b)
theorem aO.take:∀{xs:List V}{us:List cm}(n:Nat),aO xs us->aO (xs.take n) (us.take n)
 |_,_,0,_=>.nil
 |_,_,_+1,.nil=>.nil
 |_,_,n+1,.cons r t=>.cons r<|aO.take n t
theorem aO.drop:∀{xs:List V}{us:List cm}(n:Nat),aO xs us->aO (xs.drop n) (us.drop n)
 |_,_,0,r=>r
 |_,_,_+1,.nil=>.nil
 |_,_,n+1,.cons _ t=>aO.drop n t
def kI:Option V->Option cm->Prop
 |some v,al u=>RelV v u
 |none,am=>True
 |_,_=>False
def KV:List (a×V)->List (a×cm)->Prop:=aaO λ(p:a×V) (q:a×cm)=>p.1=q.1/\RelV p.2 q.2
def kV:Key->V
 |.inl i=>.int i
 |.inr x=>.str x
inductive HO where
 /-- a list -/
 |L (xs:List V)
 /-- a tuple (never changes) -/
 |U (xs:List V)
 /-- a dict whose keys are ints and texts;one whose keys are tuples of ints and texts (the empty one is both) -/
 |dK (kvs:List (Key×V))|dT (kvs:List (List Key×V))
 /-- a set of ints: its members,its size -/
 |set (S:Int->Bool) (n:Nat)
 /-- an instance of the class at C,its dict at dx,its attributes -/
 |ins (C dx:dn) (fs:List (eS×V))
 /-- the dict of the instance at x -/
 |O (x:dn)
 /-- the dict of an exception -/
 |xd (fs:List (eS×V))
 /-- a bound method,f of x -/
 |met (f x:dn)
 /-- a range object lo,lo+1,.. below hi -/
 |rV (lo hi:Int)
 /-- a thing that is known to the object (the script;a dict while a loop walks it): read,never written while it is so -/
 |bA (o:zI) (u:HO)
 /-- a code object's table -/
 |nj (ps:Array cm)
 /-- any other thing,by what is true of its one object (a def of one's own: SetO a S n:=HO.ext fun h=>..) -/
 |ext (φ:nk->Prop)
abbrev Hp:=dn->Option HO
def upd(H:Hp)(a:dn)(o:HO):Hp:=λb=>if b=a then al o else H b
def a9:upd H a o a=al o:=by$$(upd);rw[if_pos ρ]
def aA (h:b≠a):upd H a o b=H b:=by simp![upd]
def UY:upd (upd H a o) a u=upd H a u:=by funext b;simp![upd]
def Yz{H:Hp}{a b:dn}{o u:HO}(h:H a=al o)(h':H b=al u)(d:o≠u):a≠b:=by grind
def dE{H:Hp}{a b:dn}{o:HO}(h:H a=al o)(h':H b=am):a≠b:=by lia
section
variable(P:hZ)(w:nL)
def cH(H:Hp)(h:nk)(a:dn):HO->Prop
 | .L xs=>xs.length<=c6/\∃(its:List cm) (n:Nat),aO xs its/\h.get? a=al {cls:=.type "list",data:=.seq its.toArray n}
 |.U xs=>xs.length<=c6/\∃its:List cm,aO xs its/\abx h a its.toArray
 |.dK kvs=>kvs.length<=c6/\(a==NN)=bn/\∃vs,KV kvs vs/\h.DictOf (cZ P w) a vs
 | .dT kvs=>kvs.length<=c6/\(a==NN)=bn/\∃xs:List (List Key×dn×cm),
   aaO (λ(p:List Key×V) (q:List Key×dn×cm)=>p.1=q.1/\H q.2.1=al (.U<|p.1.map kV)/\RelV p.2 q.2.2) kvs xs /\
   ∃o e ep,h.get? a=al o/\o.ExactDict/\o.data=.dict e ep/\e.toList=xs.map (entryOfKey<|aej<|cZ P w)/\(xs.map (·.1)).Nodup
 |.set S n=>h.SetOf (intKind P w) a S n
 | .ins C c fs=>H c=al (.O a)/\fs.length<=1000/\c≠a/\h.get? a=al (W.instObj C c) /\
   ∃b,h.Ns1 c b/\(∀f,kI (fs.lookup f)<|b f)/\PySem.Within b (fs.map (·.1))
 |.O _=>∃o,h.get? a=al o
 |.xd fs=>∃b,h.Ns1 a b/\∀f,kI (fs.lookup f) (b f)
 | .rV lo j=>∃t u v,h.get? a=al {cls:=.type "range",data:=.fields #[.int lo t,.int j u,.int 1 v]}
 |.bA o u=>h.get? a=al o/\cH H h a u
 |.nj k=>h.get? a=al {cls:=.none,data:=.fields k}
 |.met f x=>h.get? a=al (afw (.ref f)<|.ref x)
 |.ext d=>d h/\(∃o,h.get? a=al o)/\∀g i:nk,d g->(∀o,g.get? a=al o->i.get? a=al o)->d i
def cg(H:Hp)(h:nk):Prop:=∀a o,H a=al o->cH P w H h a o
end
section
variable{P:hZ}{w:nL}{H H':Hp}{h h':nk}{a:dn}{o:HO}{x e:dn}{o':HO}
theorem cH.lt(x:cH P w H h a o):a<h.objs.size:=by
 cases o with
 |L xs=>let(_,_,_,_,e):=x;$(fj e)
 |U xs=>let(_,_,_,p):=x;$p.lt
 |dK kvs=>let(_,_,_,_,o,_,_,e,_):=x;$(fj e)
 |dT kvs=>let(_,_,_,_,o,_,_,e,_):=x;$(fj e)
 |set S n=>let(o,_,_,_,e,_):=x;$(fj e)
 |ins C dx fs=>let(_,_,_,e,_):=x;$(fj e)
 |O y=>let(_,e):=x;$(fj e)
 |xd fs=>let(_,(_,_,_,e,_),_):=x;$(fj e)
 |rV lo hi=>let(_,_,_,e):=x;$(fj e)
 |bA ob u=>let(e,_):=x;$(fj e)
 |nj ps=>$(fj (x))
 |met f y=>$(fj (x))
 |ext φ=>let(_,(_,e),_):=x;$(fj e)
theorem Paired.tj (p:aaO F l₁ l₂)(f:∀a b,F a b->G a b):aaO G l₁ l₂:=by
 induction p with
 |nil=>$(.nil)
 |cons r _ g=>$(.cons (f _ _ r) g)
theorem cH.gH(x:cH P w H h a o)(k:∀b u,(b=a\/H b=al (.O a))->h.get? b=al u->h'.get? b=al u)
 (ho:∀b,H b=al (.O a)->H' b=al (.O a))(m:∀b xs,H b=al (.U xs)->H' b=al (.U xs)):cH P w H' h' a o:=by
 induction o with
 |L xs=>let(z,its,n,r,e):=x;$({z,its,n,r,k _ _ (ι ρ) e})
 |U xs=>let(z,its,r,ob,e,c):=x;$({z,its,r,ob,k _ _ (ι ρ) e,c})
 |dK kvs=>let(z,y,vs,r,ob,g,ep,e,c):=x;$({z,y,vs,r,ob,g,ep,k _ _ (ι ρ) e,c})
 |dT kvs=>let(z,y,xs,r,ob,g,ep,e,c):=x;$({z,y,xs,Paired.tj r λp q z=>{z.1,m _ _ z.2.1,z.2.2},ob,g,ep,k _ _ (ι ρ) e,c})
 |set S n=>let(ob,g,ep,t,e,c):=x;$({ob,g,ep,t,k _ _ (ι ρ) e,c})
 |ins C dx fs=>let(d,z,ne,e,i,(j,g,ep,s,c),r):=x;$({ho _ d,z,ne,k _ _ (ι ρ) e,i,{j,g,ep,k _ _ (τ d) s,c},r})
 |O y=>let(ob,e):=x;$({ob,k _ _ (ι ρ) e})
 |xd fs=>let(i,(j,g,ep,e,c),r):=x;$({i,{j,g,ep,k _ _ (ι ρ) e,c},r})
 |rV lo hi=>let(t,u,v,e):=x;$({t,u,v,k _ _ (ι ρ) e})
 |bA ob u A=>let(e,q):=x;$({k _ _ (ι ρ) e,A q})
 |nj l=>let e:=x;$(k a _ (ι ρ) e)
 |met f y=>let e:=x;$(k a _ (ι ρ) e)
 |ext φ=>let(p,(o,e),st):=x;$({st _ _ p λo q=>k _ _ (ι ρ) q,{o,k _ _ (ι ρ) e},st})
def cg.lt(x:cg P w H h)(e:H a=al o):a<h.objs.size:=(x a o e).lt
theorem cg.fresh(x:cg P w H h)(e:h.objs.size<=a):H a=am:=by
 cases q:H a with
 |none=>rfl
 |some u=>$(absurd (iN (x.lt q) e)<|uz _)
def cg.kept(x:cg P w H h)(k:∀b u,h.get? b=al u->h'.get? b=al u):cg P w H h':=λa o e =>
 (x a o e).gH (λb u _ q=>k b u q) (λ_ q=>q) λ_ _ q=>q
def cg.laid(x:cg P w H h)(k:∀b u,h.get? b=al u->h'.get? b=al u)(i:h.objs.size<=a)(d:cH P w (upd H a o) h' a o):cg P w (upd H a o) h':=λb u e=>by
 let f:=x.fresh i;ext(g:b=a)
 .$$g;rw[a9]at e;$$$$$$e;$d
 rw[aA g]at e;$((x b u e).gH (λc v _ q=>k c v q) (λc q=>by rw[aA (dE q f)];$q) λc xs q=>by rw[aA (dE q f)];$q)
def Rd(H:Hp)(a:dn)(u:HO):Prop:=H a=al u\/∃o,H a=al (.bA o u)
def Rd.of (h:H a=al u):Rd H a u:=ι h
theorem Rd.ok{P:hZ}{w:nL}{H:Hp}{h:nk}{a:dn}{u:HO}(r:Rd H a u)(x:cg P w H h):cH P w H h a u:=by
 let r||(o,r):=r
 .$(x a u r)
 let(_,q):=x a _ r;$q
def tE:Option HO->Prop
 |some (.L _)=>True
 |some (.dK _)=>True
 |some (.dT _)=>True
 |some (.set _ _)=>True
 |some (.ins _ _ _)=>True
 |some (.ext _)=>True
 |_=>False
def cg.write(ok:cg P w H h)(f:tE (H x))(p:e=x\/H e=al (.O x))(k:∀b u,b≠e->h.get? b=al u->h'.get? b=al u)(l:∃u,h'.get? e=al u)
 (m:cH P w (upd H x o') h' x o'):cg P w (upd H x o') h':=λb u q=>by
 let g:∀c y,H c=al (.O y)->c≠x:=λc y r z=>by$$z;rwa[r]at f
 let i:∀c xs,H c=al (.U xs)->c≠x:=λc xs r z=>by$$z;rwa[r]at f
 ext(j:b=x)
 .$$j;rw[a9]at q;$$$$$$q;$m
 rw[aA j]at q;ext(d:b=e)
 .let n:H b=al (.O x):=by
   let z||z:=p
   .$(absurd (d.trans z) j)
   rwa[d]
  rw[q]at n;$$$$$$n;let(v,s):=l;$({v,by rw[d];$s})
 $((ok b u q).gH (λc v hc r=>k c v ?_ r) (λc r=>by rw[aA (g c b r)];$r) λc xs r=>by rw[aA (i c xs r)];$r)
 grind
end
structure Un (fs ex:List dn) (H H':Hp) (h h':nk):Prop where
 keep:∀b o,h.get? b=al o->H b=am->b∉fs->b∉ex->h'.get? b=al o
 slot:∀b o,h.get? b=al o->H b=am->b∈fs->b∉ex->∃sl,h'.get? b=al {o with slots:=sl}
 free:∀b o,h.get? b=al o->H b=am->b∉ex->H' b=am
 there:∀b o,h.get? b=al o->b∉ex->∃o',h'.get? b=al o'
 iS:∀b xs,H b=al (.U xs)->H' b=al (.U xs)
 hX:∀b o u,H b=al (.bA o u)->H' b=al (.bA o u)
 iY:∀b ps,H b=al (.nj ps)->∃more,H' b=al (.nj<|ps++more)
section
variable{fs fs' ex ex':List dn}{H H1 H2:Hp}{h h1 h2 h':nk}{a x e:dn}{o:HO}
def Un.any(u:Un fs ex H H1 h h1)(q:h.get? b=al ob)(n:H b=am)(c:b∉ex):∃sl,h1.get? b=al {ob with slots:=sl}:=by
 ext(d:b∈fs)
 .$(u.slot b ob q n d c)
 $({ob.slots,u.keep b ob q n d c})
def Un.kept(k:∀b u,h.get? b=al u->h'.get? b=al u):Un fs ex H H h h' :=
 {λb ob q _ _ _=>k b ob q,λb ob q _ _ _=>{ob.slots,k b ob q},λ_ _ _ n _=>n,λb ob q _=>{ob,k b ob q},λ_ _ q=>q,λ_ _ _ q=>q,λ_ ps q=>{#[],by rw[q];simp}}
def Un.refl:Un fs ex H H h h:=Un.kept λ_ _ q=>q
def Un.laid(k:∀b u,h.get? b=al u->h'.get? b=al u)(d:h.objs.size<=a)(c:H a=am):Un fs ex H (upd H a o) h h' where
 keep:=λb u q _ _ _=>k b u q
 slot:=λb u q _ _ _=>{u.slots,k b u q}
 free:=λb u q n _=>by rw[aA (gD<|iN (fj q) d)];$n
 there:=λb u q _=>{u,k b u q}
 iS:=λb xs q=>by rw[aA (dE q c)];$q
 hX:=λb u xs q=>by rw[aA (dE q c)];$q
 iY:=λb ps q=>{#[],by rw[aA (dE q c),q];simp}
def Un.write(c:tE (H x))(he:e=x\/H e=al (.O x))(k:∀b u,b≠e->h.get? b=al u->h'.get? b=al u)(heo:∃u,h'.get? e=al u):Un fs ex H (upd H x o) h h':=by
 let g:∀b,H b=am->b≠x:=λb n z=>by$$z;rwa[n]at c
 let d:∀b,H b=am->b≠e:=by lia
 let hm:∀b u,H b=al u->¬tE (al u)->b≠x:=by lia
 refine⟨λb u q n _ _=>k b u (d b n) q,λb u q n _ _=>{u.slots,k b u (d b n) q},λb u q n _=>by rw[aA (g b n)];$n,λb u q _=>?_,
  λb xs q=>by rw[aA (hm b _ q λz=>z)];$q,λb u xs q=>by rw[aA (hm b _ q λz=>z)];$q,λb ps q=>{#[],by rw[aA (hm b _ q λz=>z),q];simp}⟩
 ext(f:b=e);simp!;$({u,k b u f q})
end
def fx(h:nk)(H:Hp):List Addr:=(hE h.objs.size).filter λa=>(H a).isSome
def lS(h:nk)(H:Hp):Heap:=agu h<|fx h H
theorem MS (e:(lS h H).get? b=al o):h.get? b=al o/\H b=am:=by
 let a:=ae7 (fx h H) e;$({a,?_});cases q:H b with
 |none=>rfl
 |some x=>simp![fx,lS,fj,aew]
def lG(g h:nk)(L:dn):List (dn×zI):=(hE h.objs.size).filterMap λa=>if a=L\/(g.get? a).isSome=bi then am else(h.get? a).map λo=>(a,o)
def Av (c:a≠L)(d:g.get? a=am)(b:h.get? a=al o):(a,o)∈lG g h L :=
 pz.2 {a,hI.2<|fj b,by simp[c,d,b]}
theorem Xs (a:p∈lG g h L):p.1≠L/\g.get? p.1=am/\h.get? p.1=al p.2:=by
 let(b,_,e):=pz.1 a;$$$$$e
 .$(nO e)
 cases q:h.get? b with
 |none=>simp!
 |some u=>rw[q]at e;simp at e;$$e;simp!
def BE:News g L h (lG g h L):=λp d=>let⟨a,b,c⟩:=Xs d;⟨c,a,b⟩
structure Mod (K:f') (mg:eS->Option cm) (base:nk):Prop where
 ur:K.In base
 glob:base.Ns hQ mg
 blt:∃mb,base.Ns agt mb/\∀x:eS,x≠"__name__"->mb x=ZH x
 nolimit:base.NoLimit
structure Cx where
 prog:hZ
 w:nL
 K:f'
 mg:eS->Option cm
 base:nk
 A:ow
 N:List eS
 dj:cA
 uY:Hp
 env:Env
 outer:List Env
 stack:List Env
 ex:List dn
 fn:eS->Bool
 calm:Bool
 pn:List (dn×zI)
 xe:cm->cA->Prop
def dF(l:List Env):List Addr:=l.filterMap (·.frame)
abbrev bz(x:eS):Prop:=(x==("__debug__":eS))=bn
abbrev cB(x:eS):Prop:=(x==("__classdict__":eS))=bn
abbrev bD(X:Cx)(e:hF)(a:List hF):Prop:=km (e::a) X.env=(false,eval e X.env)::km a X.env
abbrev qF(X:Cx)(p:u1)(e:hF):Prop:=((T' p<|km [e] X.env).all (λx=>!x.1)&&(backToKw p<|keywordEach [] X.env).all (λx=>x.1.isSome)&&bd ([e].length+([]:List agO).length+(if([]:List agO).isEmpty then 0 else 1)<30))=bi
abbrev Cx.fs(X:Cx):List Addr:=dF X.outer
def bV(a:aah)(x:eS):Prop:=a.names.lookup x=some .local\/a.names.lookup x=some .cell\/a.names.lookup x=some .free
def Loc(a:aah)(x:eS):Prop:=a.names.lookup x=some .local\/a.names.lookup x=some .cell
def Look(env:Env)(h:nk)(m:eS->Option cm)(x:eS)(u:cm):Prop :=
 (env.kindOf x=some .local/\m x=al u)\/((env.kindOf x=some .cell\/env.kindOf x=some .free)/\∃c,env.cells.lookup x=al c/\h.IsCell c (al u))
structure Cx.Ok (X:Cx):Prop where
 mod:Mod X.K X.mg X.base
 kind:X.env.scope.kind=.function
 glob:X.env.globals=hQ
 blt:X.env.builtins=agt
 above:X.dj.heap.objs.size<=X.env.locals
 inj:∀x y c,X.env.cells.lookup x=al c->X.env.cells.lookup y=al c->x=y
 has:∀x,(X.env.kindOf x=some .cell\/X.env.kindOf x=some .free)->∃c,X.env.cells.lookup x=al c
 mn:∀x c,X.fn x=bi->X.env.cells.lookup x=al c->X.dj.heap.objs.size<=c
 hd:X.calm=bi->X.A.handled=am
 frames:X.A.frames=al X.stack
 kW:X.stack=X.outer\/(X.stack=X.env::X.outer/\X.env.frame=al X.env.locals)
 r9:∀b∈X.ex,b≠X.env.locals/\∀x c,X.env.cells.lookup x=al c->c≠b
 bs:∀b o,X.base.get? b=al o->X.dj.heap.get? b=al o/\X.uY b=am
 jG:X.base.objs.size<=X.dj.heap.objs.size
 mB:∀b o,X.base.get? b=al o->b∉X.ex
 pE:∀b∈X.ex,b∉X.fs
 ik:X.dj.heap.FunFrames X.base X.outer
 lX:∀b∈X.fs,X.uY b=am
structure Inv (X:Cx) (pins:List (dn×zI)) (σ:List (Option V)) (H:Hp) (s:cA):Prop where
 ok:X.Ok
 os:s.os=X.dj.os
 bare:acS s.gens
 base:Un X.fs X.ex X.uY H X.dj.heap s.heap
 loc:∃m,s.heap.Ns X.env.locals m/\∀(i:Nat) (x:eS) (v:V),X.N[i]?=al x->σ[i]?=al (al v)->bV X.env.scope x->∃u,RelV v u/\Look X.env s.heap m x u
 cell:∀x c,X.env.cells.lookup x=al c->∃v,s.heap.IsCell c v
 free:H X.env.locals=am
 fA:∀x c,X.env.cells.lookup x=al c->H c=am
 pin:∀p∈X.pn++pins,s.heap.get? p.1=al p.2/\H p.1=am/\p.1≠X.env.locals/\p.1∉X.fs/\∀v,p.2.data≠.cell v
 ao:cg X.prog X.w H s.heap
 len:σ.length=X.N.length
section
variable{X:Cx}{pins:List (dn×zI)}{σ:List (Option V)}{H H':Hp}{s:cA}{h':nk}
def Cx.Ok.VO(ok:X.Ok)(e:X.base.get? b=al o):b∉X.fs:=λa=>by let:=(ok.ik.mem a).1;simp!
def Inv.bs(I:Inv X pins σ H s):∀b o,X.base.get? b=al o->s.heap.get? b=al o/\H b=am:=λb o e =>
 {I.base.keep b o (I.ok.bs b o e).1 (I.ok.bs b o e).2 (I.ok.VO e) (I.ok.mB b o e),I.base.free b o (I.ok.bs b o e).1 (I.ok.bs b o e).2 (I.ok.mB b o e)}
def Inv.bk(I:Inv X pins σ H s):∀b o,X.base.get? b=al o->s.heap.get? b=al o:=λb o e=>(I.bs b o e).1
def Inv.mod(I:Inv X pins σ H s):Mod X.K X.mg X.base:=I.ok.mod
def Inv.fY(I:Inv X pins σ H s):X.K.In s.heap:=I.ok.mod.ur.keeps I.bk
def Inv.lt(I:Inv X pins σ H s):X.env.locals<s.heap.objs.size:=let⟨_,a,_⟩:=I.loc;a.lt
def Inv.sz(I:Inv X pins σ H s):X.dj.heap.objs.size<=s.heap.objs.size:=n5 I.ok.above<|aaV I.lt
def Inv.R9(I:Inv X pins σ H s)(h:s.heap.objs.size<=a):a∉X.fs:=λb=>by let(_,o,ho,_):=I.ok.ik.mem b;$(absurd (iN (fj ho)<|n5 I.sz h)<|uz _)
def Inv.iF(I:Inv X pins σ H s):∀x c,X.env.cells.lookup x=al c->c≠X.env.locals:=λx c e z=>by let(v,o,ho,hd):=I.cell x c e;let(m,(o',es,ep,ho',hd',_),_):=I.loc;simp!
theorem Inv.ik(I:Inv X pins σ H s):s.heap.FunFrames X.base X.outer:=by
 let all:∀(l:List Env),(∀b∈dF l,b∈X.fs)->X.dj.heap.FunFrames X.base l->s.heap.FunFrames X.base l:=by
  ext l;induction l with
  |nil=>ext _ _;trivial
  |cons env r f=>ext hs hl;let(g,(L,o,a,h,ho,hd),i):=hl;let c:=hs L (by$$(dF);rw[aa1,a];$fm);let(sl,e):=I.base.slot L o ho (I.ok.lX L c) c λz=>I.ok.pE L z c;$({g,{L,_,a,h,e,hd},f (λb d=>hs b (by$$(dF);rw[aa1,a];$(fk _ d))) i})
 $(all X.outer (λ_ d=>d) I.ok.ik)
def Inv.stack(I:Inv X pins σ H s):s.heap.FunFrames X.base X.stack:=by
 let e||(e,a):=I.ok.kW
 .rw[e];$I.ik
 rw[e];let(m,b,_):=I.loc;$(.cons (by rw[I.ok.kind];decide) a b ?_ I.ik);$(aeU<|n5 I.ok.jG I.ok.above)
def Inv.tY(I:Inv X pins σ H s):∀b∈dF X.stack,b∈X.env.locals::X.fs:=λb a=>by
 let e||(e,c):=I.ok.kW
 .rw[e]at a;$(fk _ a)
 rw[e]at a;delta dF at a;simp?[aa1,c]at a;$a
def Inv.A5(I:Inv X pins σ H s):∀b∈dF X.stack,H b=am:=λb a=>by
 let e||a:=eW.1 (I.tY b a)
 .rw[e];$I.free
 let(_,o,ho,_):=I.ok.ik.mem a;$(I.base.free b o ho (I.ok.lX b a) λz=>I.ok.pE b z a)
def Inv.step{g':Array acQ}{t':Nat}{d':Drawn}{ch:List dn}(I:Inv X pins σ H s)
 (g:∀b∈ch,(b∈X.ex\/X.dj.heap.objs.size<=b)/\b≠X.env.locals/\(∀x c,X.env.cells.lookup x=al c->c≠b)/\∀p∈X.pn++pins,p.1≠b)
 (keep:∀b o,b≠X.env.locals->b∉X.fs->b∉ch->s.heap.get? b=al o->H b=am->h'.get? b=al o)
 (slot:∀b o,b≠X.env.locals->b∈X.fs->b∉ch->s.heap.get? b=al o->H b=am->∃sl,h'.get? b=al {o with slots:=sl})(free:∀b o,b∉ch->s.heap.get? b=al o->H b=am->H' b=am)
 (there:∀b o,b∉ch->s.heap.get? b=al o->∃A,h'.get? b=al A)
 (iS:∀b xs,H b=al (.U xs)->H' b=al (.U xs))(hX:∀b o u,H b=al (.bA o u)->H' b=al (.bA o u))(iY:∀b C,H b=al (.nj C)->∃more,H' b=al (.nj<|C++more))
 (ns:∀m,s.heap.Ns X.env.locals m->h'.Ns X.env.locals m)(ao:cg X.prog X.w H' h')(J:acS g') :
  Inv X pins σ H' {s with heap:=h',gens:=g',drawn:=d',toks:=t'}:=by
 let D:∀b o,X.dj.heap.get? b=al o->b≠X.env.locals:=λb o e=>gD<|iN (fj e) I.ok.above;let t:∀b o,X.dj.heap.get? b=al o->b∉X.ex->b∉ch:=λb o e a j=>by
  let z||z:=(g b j).1
  .$(a z)
  $(absurd (iN (fj e) z)<|uz _)
 let y:∀x c,X.env.cells.lookup x=al c->∀v,s.heap.IsCell c v->h'.IsCell c v:=λx c e v ⟨o,ho,hd⟩=>by
  let h:c∉ch:=λz=>(g c z).2.2.1 x c e ρ;ext(E:c∈X.fs)
  .let(sl,q):=slot c o (I.iF x c e) E h ho<|I.fA x c e;$({_,q,hd})
  $({o,keep c o (I.iF x c e) E h ho<|I.fA x c e,hd})
 $({I.ok,I.os,J,{λb o e n j a=>?_,λb o e n j a=>?_,λb o e n a=>?_,λb o e a=>?_,λb xs e=>iS b xs<|I.base.iS b xs e,λb o xs e=>hX b o xs<|I.base.hX b o xs e,λb C e=>?_},?_,λx c e=>?_,?_,λx c e=>?_,λp F=>?_,ao,I.len})
 .$(keep b o (D b o e) j (t b o e a) (I.base.keep b o e n j a)<|I.base.free b o e n a)
 .let(sl,f):=I.base.slot b o e n j a;let(G,B):=slot b _ (D b o e) j (t b o e a) f<|I.base.free b o e n a;$(⟨G,B⟩)
 .let(A,f):=I.base.there b o e a;$(free b A (t b o e a) f<|I.base.free b o e n a)
 .let(A,f):=I.base.there b o e a;$(there b A (t b o e a) f)
 .let(K,f):=I.base.iY b C e;let(L,B):=iY b _ f;$({K++L,by rw[B,afh]})
 .let(m,M,hl):=I.loc;$({m,ns m M,λi x v f B N=>?_});let(u,r,l):=hl i x v f B N;$({u,r,?_});let l||(k,c,e,z):=l
  .$(ι l)
  $(τ {k,c,e,y x c e _ z})
 .let(v,z):=I.cell x c e;$({v,y x c e v z})
 .let(m,(o,_,_,ho,_),_):=I.loc;$(free _ o (λz=>(g _ z).2.1 ρ) ho I.free)
 .let(v,o,ho,hd):=I.cell x c e;$(free c o (λz=>(g c z).2.2.1 x c e ρ) ho<|I.fA x c e)
 let(e,n,ne,nf,d):=I.pin p F;let h:p.1∉ch:=λz=>(g p.1 z).2.2.2 p F ρ;$({keep p.1 p.2 ne nf h e n,free p.1 p.2 h e n,ne,nf,d})
def Inv.un (I:Inv X pins σ H s)(u:Un X.fs [] H H' s.heap h')(ao:cg X.prog X.w H' h'):Inv X pins σ H' {s with heap:=h',toks:=t'}:=by
 let(m,(o,es,ep,ho,r),_):=id I.loc;let(sl,f):=u.any ho I.free ⋯
 $(I.step (ch:=[]) (λ_ z=>nomatch z) (λb o _ c _ e n=>u.keep b o e n c ⋯) (λb o _ c _ e n=>u.slot b o e n c ⋯) (λb o _ e n=>u.free b o e n ⋯) (λb o _ e=>u.there b o e ⋯) u.iS u.hX u.iY (λm' hm=>by let(o',es',d,a,g):=hm;rw[ho]at a;$$$$$$a;$({_,es',d,f,g})) ao I.bare)
def Inv.call (I:Inv X pins σ H s)(u:Un (dF X.stack) ch H H' s.heap h')(ao:cg X.prog X.w H' h')(i:acS g')(d:∀b∈ch,(b∈X.ex\/X.dj.heap.objs.size<=b)/\b≠X.env.locals/\(∀x c,X.env.cells.lookup x=al c->c≠b)/\∀p∈X.pn++pins,p.1≠b) :
  Inv X pins σ H' {s with heap:=h',gens:=g',drawn:=d',toks:=t'}:=by
 let(m,(o,es,ep,ho,r),_):=id I.loc;let(sl,g):=u.any ho I.free λz=>(d _ z).2.1 ρ
 $(I.step d (λb o g j a e n=>u.keep b o e n (λz=>(eW.1<|I.tY b z).elim g j) a) (λb o _ _ a e n=>u.any e n a) (λb o a e n=>u.free b o e n a) (λb o a e=>u.there b o e a) u.iS u.hX u.iY (λm' hm=>by let(o',es',h,f,k):=hm;rw[ho]at f;$$$$$$f;$({_,es',h,g,k})) ao i)
def Inv.turned (I:Inv X pins σ H s)(k:∀b o,b≠it->s.heap.get? b=al o->h'.get? b=al o)(hn:H it=am)(f:it≠X.env.locals)(g:it∈X.ex\/X.dj.heap.objs.size<=it)(h:∀x c,X.env.cells.lookup x=al c->c≠it)(i:∀p∈X.pn++pins,p.1≠it):Inv X pins σ H {s with heap:=h',toks:=t'}:=by
 let d:∀b u,H b=al u->b≠it:=by lia
 $(I.step (ch:=[it]) (λb j=>?_) (λb o _ _ a e _=>k b o (λz=>a (by simp[z])) e) (λb o _ _ a e _=>{o.slots,k b o (λz=>a (by simp[z])) e}) (λ_ _ _ _ n=>n)
  (λb o a e=>{o,k b o (λz=>a (by simp[z])) e}) (λ_ _ e=>e) (λ_ _ _ e=>e) (λb ps e=>{#[],by rw[e];simp}) (λm hm=>?_) (λb u e=>?_) I.bare)
 .let e:b=it:=by$$$$j
  $$e;$(⟨g,f,h,i⟩)
 .let(o,l,ep,ho,r):=hm;$({o,l,ep,k _ o (Ne.symm f) ho,r})
 $((I.ao b u e).gH (λc v a q=>k c v ?_ q) (λ_ q=>q) λ_ _ q=>q);let z||z:=a
 .rw[z];$(d b u e)
 $(d c _ z)
def Inv.tok(I:Inv X pins σ H s)(t:Nat):Inv X pins σ H {s with toks:=t}:=I.un Un.refl I.ao
def Inv.kept (I:Inv X pins σ H s)(k:∀b u,s.heap.get? b=al u->h'.get? b=al u):Inv X pins σ H {s with heap:=h',toks:=t'}:=I.un (Un.kept k)<|I.ao.kept k
def Inv.laid (I:Inv X pins σ H s)(k:∀b u,s.heap.get? b=al u->h'.get? b=al u)(c:s.heap.objs.size<=a)(d:cH X.prog X.w (upd H a o) h' a o) :
  Inv X pins σ (upd H a o) {s with heap:=h',toks:=t'}:=I.un (Un.laid k c<|I.ao.fresh c)<|I.ao.laid k c d
def Inv.write (I:Inv X pins σ H s)(c:tE (H x))(d:e=x\/H e=al (.O x))(k:∀b u,b≠e->s.heap.get? b=al u->h'.get? b=al u)(a:∃u,h'.get? e=al u)(f:cH X.prog X.w (upd H x o) h' x o):Inv X pins σ (upd H x o) {s with heap:=h',toks:=t'}:=I.un (Un.write c d k a)<|I.ao.write c d k a f
def Inv.J9 (I:Inv X pins σ H s)(h:∀p∈a,s.heap.get? p.1=al p.2/\H p.1=am/\p.1≠X.env.locals/\p.1∉X.fs/\∀v,p.2.data≠.cell v):Inv X a σ H s :=
 {I.ok,I.os,I.bare,I.base,I.loc,I.cell,I.free,I.fA,λp b=>(eK.1 b).elim (λz=>I.pin p<|abD _ z) (h p),I.ao,I.len}
def yi{N:List eS}(c:N.Nodup){i j:Nat}{x:eS}(a:N[i]?=al x)(b:N[j]?=al x):i=j:=by let(h1,d):=cn.1 a;let(h2,e):=cn.1 b;$((He c).1 (d.trans e.symm))
def Jk (I:Inv X pins σ H s)(hN:X.N.Nodup)(G:X.N[i]?=al x)(l:Loc X.env.scope x)(r:RelV v u)(h:∀s',Inv X pins (σ.set i<|al v) H s'->(∃a,L' a s.heap s'.heap/\(a=X.env.locals\/X.env.cells.lookup x=al a))->Q () s')(hf:X.fn x=bi\/X.env.scope.names.lookup x=some .local:=by first|$(ι ρ)|$(τ ρ)|assumption):gj M A (storeName X.env x u) Q E s:=by
 let(m,T,hl):=id I.loc;let U:(X.env.scope.kind==.class||(X.env.scope.kind==.module&&X.env.locals != X.env.globals))=bn:=by rw[I.ok.kind];rfl
 let J:i<σ.length:=by rw[I.len];$((cn.1 G).1)
 let iF:=I.iF;let tracked:∀{a:dn}{h':nk},(∃o,s.heap.get? a=al o/\H a=am)->L' a s.heap h'->cg X.prog X.w H h':=λ{a h'} ha hs b ob e=>by
  let(_,_,F):=ha;$((I.ao b ob e).gH (λc L g q=>(hs.2 c ?_).trans q) (λ_ q=>q) λ_ _ q=>q);ext rfl;let rfl||g:=g
  .rw[F]at e;$(nO e)
  rw[F]at g;$(nO g)
 let B||B:=l
 .refine wpAny_storeName_local B T (λh' YF hs=>?_) U;let(oL,_,_,YG,_):=id T;$(h _ {I.ok,I.os,I.bare,{λb o e n C l=>?_,λb o e n C l=>?_,I.base.free,λb o e l=>?_,I.base.iS,I.base.hX,I.base.iY},{_,YF,λj y W f t Y=>?_},λy c e=>?_,I.free,I.fA,λp Z=>?_,tracked ⟨oL,YG,I.free⟩ hs,by$$$$I.len} {_,hs,ι ρ})
  .exact (hs.2 b<|gD<|iN (fj e) I.ok.above).trans (I.base.keep b o e n C l)
  .let(sl,f):=I.base.slot b o e n C l;$({sl,(hs.2 b<|gD<|iN (fj e) I.ok.above).trans f})
  .let(o',f):=I.base.there b o e l;$({o',(hs.2 b<|gD<|iN (fj e) I.ok.above).trans f})
  .ext(D:j=i)
   .subst D;rw[G]at f;$$$$$$f;rw[qz J]at t;$$$t;$({u,r,ι {B,⋯}})
   rw[mu (Ne.symm D)]at t;let(u',r',q):=hl j y W f t Y;$({u',r',?_});let(k,e)||(k,c,e,z):=q
   .refine ι {k,?_};let:y≠x:=λe=>D (yi hN f<|e ▸ G);simp[this,e]
   exact τ {k,c,e,z.sameBut hs<|iF y c e}
  .let(L,z):=I.cell y c e;$({L,z.sameBut hs<|iF y c e})
  let(e,n,ne,nf,d):=I.pin p Z;$({(hs.2 p.1 ne).trans e,n,ne,nf,d})
 let K:X.fn x=bi:=by
  let z||z:=hf
  .exact z
  rw[z]at B;lk
 let(c,g):=I.ok.has x<|ι B;let(L,z):=I.cell x c g;$(wpAny_storeName_cell I.ok.kind B g z<|λh' P hs=>?_);let(oc,R,YD):=id z;$(h {s with heap:=h'} {I.ok,I.os,I.bare,{λb o e n C l=>?_,λb o e n C l=>?_,I.base.free,λb o e l=>?_,I.base.iS,I.base.hX,I.base.iY},{m,T.sameBut hs<|Ne.symm<|iF x c g,λj y W f t Y=>?_},λy O e=>?_,I.free,I.fA,λp Z=>?_,tracked {oc,R,I.fA x c g} hs,by$$$$I.len} {c,hs,τ g})
 .exact (hs.2 b<|gD<|iN (fj e)<|I.ok.mn x c K g).trans (I.base.keep b o e n C l)
 .let(sl,f):=I.base.slot b o e n C l;$({sl,(hs.2 b<|gD<|iN (fj e)<|I.ok.mn x c K g).trans f})
 .let(o',f):=I.base.there b o e l;$({o',(hs.2 b<|gD<|iN (fj e)<|I.ok.mn x c K g).trans f})
 .ext(D:j=i)
  .subst D;rw[G]at f;$$$$$$f;rw[qz J]at t;$$$t;$({u,r,τ {ι B,c,g,P}})
  rw[mu (Ne.symm D)]at t;let(u',r',q):=hl j y W f t Y;$({u',r',?_});let q||(k,O,e,z'):=q
  .exact ι q
  refine τ {k,O,e,z'.sameBut hs ?_};ext rfl;$(D<|yi hN f<|I.ok.inj _ _ _ e g ▸ G)
 .ext(S:O=c)
  .subst S;$({_,P})
  let(w2,z2):=I.cell y O e;$({w2,z2.sameBut hs S})
 let(e,n,ne,nf,d):=I.pin p Z;$({(hs.2 p.1 ?_).trans e,n,ne,nf,d});ext q;rw[q,R]at e;$(d L (by rw[<-(Option.some.inj e)];$YD))
def Ax (I:Inv X pins σ H s)(a:X.N.Nodup)(b:X.N[i]?=al x)(c:Loc X.env.scope x)(r:RelV v u)(h:∀s',Inv X pins (σ.set i<|al v) H s'->Q () s')(d:X.fn x=bi\/X.env.scope.names.lookup x=some .local:=by first|$(ι ρ)|$(τ ρ)|assumption):gj M A (storeName X.env x u) Q E s :=
 Jk I a b c r (λs' e _=>h s' e) d
def Inv.Ew (I:Inv X pins σ H s)(ho:s'.os=s.os)(u:Un (dF X.stack) ch H H' s.heap s'.heap)(ao:cg X.prog X.w H' s'.heap)(d:acS s'.gens)(a:∀b∈ch,(b∈X.ex\/X.dj.heap.objs.size<=b)/\b≠X.env.locals/\(∀x c,X.env.cells.lookup x=al c->c≠b)/\∀p∈X.pn++pins,p.1≠b):Inv X pins σ H' s':=by let(h',g',d',t',f):=s';let e:=ho;$$e;$(I.call u ao d a)
end
abbrev XK:=cm->Option dn->Hp->Prop
abbrev St:=List<|Option V
abbrev VK:=V->Hp->Prop
abbrev TE:=St->Hp->VK->Prop
abbrev TT:=St->Hp->(Bool->Hp->Prop)->Prop
abbrev TA:=St->Hp->(List V->Hp->Prop)->Prop
structure Ends where
 nx:St->Hp->Prop
 rt:VK
 bk:St->Hp->Prop:=λ_ _=>False
 ct:St->Hp->Prop:=λ_ _=>False
abbrev TS:=Ends->St->Hp->Prop
inductive EP (X:Cx) (pins:List (dn×zI)) (σ:St) (Q:VK) (u:cm) (s':cA):Prop
 |mk (v) (H') (i:Inv X pins σ H' s') (r:RelV v u) (q:Q v H')
def TP(X:Cx)(a:List (dn×zI))(d:St)(Q:Bool->Hp->Prop)(b:Bool)(s':cA):Prop:=∃c,Inv X a d c s'/\Q b c
inductive AP (X:Cx) (pins:List (dn×zI)) (σ:St) (Q:List V->Hp->Prop) (us:List cm) (s':cA):Prop
 |mk (vs) (H') (i:Inv X pins σ H' s') (r:aO vs us) (q:Q vs H')
def SP(X:Cx)(c:List (dn×zI))(D:Ends)(f:Flow)(s':cA):Prop :=
 match f with
 |.next=>∃a b,Inv X c a b s'/\D.nx a b
 |.brk=>∃a b,Inv X c a b s'/\D.bk a b
 |.cont=>∃a b,Inv X c a b s'/\D.ct a b
 |.ret u=>∃v a b,Inv X c a b s'/\RelV v u/\D.rt v b
def PE(X:Cx)(e:hF)(t:TE):Prop :=
 ∀(a:List (dn×zI)) (s:cA) (b:St) (H:Hp) (Q:VK),Inv X a b H s->t b H Q->gj (hM X.prog X.w) X.A (eval e X.env) (EP X a b Q) X.xe s
def PT(X:Cx)(e:hF)(t:TT):Prop :=
 ∀(a:List (dn×zI)) (s:cA) (b:St) (H:Hp) (Q:Bool->Hp->Prop),Inv X a b H s->t b H Q->gj (hM X.prog X.w) X.A (aeE e X.env<|eval e X.env) (TP X a b Q) X.xe s
def PW(X:Cx)(e:hF)(t:TT):Prop :=
 ∀(whole:Sem cm) (a:List (dn×zI)) (s:cA) (b:St) (H:Hp) (Q:Bool->Hp->Prop),Inv X a b H s->t b H Q->gj (hM X.prog X.w) X.A (aeE e X.env whole) (TP X a b Q) X.xe s
def PW.pt (h:PW X e t):PT X e t:=h _
def PA(X:Cx)(c:List hF)(t:TA):Prop :=
 ∀(pos:u1) (a:List (dn×zI)) (s:cA) (b:St) (H:Hp) (Q:List V->Hp->Prop),Inv X a b H s->t b H Q->gj (hM X.prog X.w) X.A (spliced<|T' pos<|km c X.env) (AP X a b Q) X.xe s
def PS(X:Cx)(st:aas)(t:TS):Prop :=
 ∀(a:List (dn×zI)) (s:cA) (b:St) (H:Hp) (D:Ends),Inv X a b H s->t D b H->gj (hM X.prog X.w) X.A (exec st X.env) (SP X a D) X.xe s
def gu(X:Cx)(st:List aas)(t:TS):Prop :=
 ∀(a:List (dn×zI)) (s:cA) (b:St) (H:Hp) (D:Ends),Inv X a b H s->t D b H->gj (hM X.prog X.w) X.A (execs st X.env) (SP X a D) X.xe s
def aI (h:gj M A t Q E s)(d:∀a s,Q a s->c a s):gj M A t c E s:=z6 h d λ_ _ x=>x
section
variable{X:Cx}
def uh(i:Nat):TE:=λa H Q=>∃v,a[i]?=al (al v)/\Q v H
def tC(v:V):TE:=λ_ H Q=>Q v H
def dU (k:X.N[i]?=al x)(n:bV X.env.scope x)(hd:bz x:=by decide)(g:cB x:=by decide):PE X (.Name x pos) (uh i):=by
 ext f s o H Q I h;let(v,e,h):=h;let(m,p,hl):=I.loc;let(u,r,l):=hl i x v k e n;let d:EP X f o Q u s:=⟨v,H,I,r,h⟩;let(a,hm)||(a,c,j,b):=l
 .$(ago (wpAny_loadName_local I.ok.kind a p hm d) hd)
 let a||a:=a
 .$(ago (wpAny_loadName_cell I.ok.kind a j b d) hd)
 $(ago (wpAny_loadName_free I.ok.kind a j b d g) hd)
def C6{b j pos}:PE X (.Constant (.bool b) j pos) (tC<|.bl b):=λ_ _ _ H _ I h=>Constant_bool {.bl b,H,I,ρ,h}
theorem Dn{j pos}:PE X (.Constant .none j pos) (tC .aG):=λ_ _ _ H _ I h=>Constant_none {.aG,H,I,ρ,h}
def lQ{x j pos}:PE X (.Constant (.str x) j pos) (tC<|.str x):=λ_ _ _ H _ I h=>Calls.Constant_str {.str x,H,I.tok _,{_,ρ},h}
def Gl(X:Cx)(x:eS):Prop:=X.env.kindOf x=some .globalImplicit
def rR (I:Inv X a b H s)(c:Gl X x)(hm:X.mg x=al u)(h:Q u s)(hd:bz x:=by decide):gj (hM X.prog X.w) X.A (eval (.Name x pos) X.env) Q E s :=
 ad7 I.ok.kind c (Calls.loadGlobal_global (by rw[I.ok.glob];$(I.mod.glob.keeps I.bk)) hm h) hd
def oC (I:Inv X a b H s)(c:Gl X x)(hm:X.mg x=am)(d:ZH x=al u)(h:Q u s)(e:x≠"__name__":=by decide)(hd:bz x:=by decide):gj (hM X.prog X.w) X.A (eval (.Name x pos) X.env) Q E s:=by let(mb,f,g):=I.mod.blt;$(ad7 I.ok.kind c (Calls.loadGlobal_builtin (by rw[I.ok.glob];$(I.mod.glob.keeps I.bk)) hm (by rw[I.ok.blt];$(f.keeps I.bk)) ((g x e).trans d) h) hd)
def ko (a:Gl X x)(hm:X.mg x=al u)(r:RelV v u)(hd:bz x:=by decide):PE X (.Name x pos) (tC v) :=
 λ_ _ _ H _ I h=>rR I a hm ⟨v,H,I,r,h⟩ hd
def yz (a:Gl X x)(hm:X.mg x=am)(b:ZH x=al u)(r:RelV v u)(c:x≠"__name__":=by decide)(hd:bz x:=by decide):PE X (.Name x pos) (tC v) :=
 λ_ _ _ H _ I h=>oC I a hm b ⟨v,H,I,r,h⟩ c hd
variable{a b:hF}{ta tb:TE}{pos:u1}
def tB(t:TE):TT:=λd H Q=>t d H λx e=>∃c,x=.bl c/\Q c e
theorem Vy{e:hF}{t:TE}(h:PE X e t)(f:∀whole,aeE e X.env whole=(do let v <-whole;adX e.pos;aaB [v] (agq v)):=by ext _;rfl):PT X e (tB t):=by ext c s g H Q I hw;$(isTrue_plain (aI (h c s g H _ I hw) λv s1 ⟨x,i,j,k,l⟩=>?_)<|f _);let(d,rfl,q):=l;$$k;$(z5 ⟨i,j,q⟩)
variable{tA tB':TT}{rest:List hF}
def VC(t u:TT):TT:=λd H Q=>t d H λc e=>if c=bi then u d e Q else Q false e
def Qh(t u:TT):TT:=λd H Q=>t d H λc e=>if c=bi then Q true e else u d e Q
def PC(t:TT):TT:=λd H Q=>t d H λc e=>Q (!c) e
theorem WC(f:PT X a tA):PW X (.BoolOp .And [a] pos) tA:=by
 $(λwh d s g H Q I h=>isTrue_and (aI (f d s g H Q I h) λc s1 e=>?_));cases c with
 |true=>$(isTrue_and_nil e)
 |false=>$e
theorem VB(f:PT X a tA):PW X (.BoolOp .Or [a] pos) tA:=by
 $(λwh d s g H Q I h=>isTrue_or (aI (f d s g H Q I h) λc s1 e=>?_));cases c with
 |false=>$(isTrue_or_nil e)
 |true=>$e
theorem K8(j:PT X a tA)(k:PW X (.BoolOp .And (b::rest) pos) tB'):PW X (.BoolOp .And (a::b::rest) pos) (VC tA tB'):=by
 $(λl d s e H Q I h=>isTrue_and (aI (j d s e H _ I h) λc m q=>?_));let(f,g,i):=q;cases c with
 |true=>$(k l d m e f Q g i)
 |false=>$(⟨f,g,i⟩)
theorem Uc(j:PT X a tA)(k:PW X (.BoolOp .Or (b::rest) pos) tB'):PW X (.BoolOp .Or (a::b::rest) pos) (Qh tA tB'):=by
 $(λl d s e H Q I h=>isTrue_or (aI (j d s e H _ I h) λc m q=>?_));let(f,g,i):=q;cases c with
 |true=>$(⟨f,g,i⟩)
 |false=>$(k l d m e f Q g i)
def Ti(ta tb:TE):TE:=λd H Q=>ta d H λx e=>∃c,x=.bl c/\if c=bi then tb d e Q else Q (.bl false) e
def Eh{op}(h:PE X a t):PE X (.BoolOp op [a] pos) t:=λc s d H Q I hw=>BoolOp_one<|h c s d H Q I hw
theorem VM(j:PE X a ta)(k:PE X (.BoolOp .And (b::rest) pos) tb):PE X (.BoolOp .And (a::b::rest) pos) (Ti ta tb):=by
 ext d s f H Q I h;$(BoolOp_and (aI (j d s f H _ I h) λv l ⟨x,g,i,m,e⟩=>?_));let(c,rfl,e):=e;$$m;$(z5 ?_);cases c with
 |true=>$(k d l f g Q i e)
 |false=>$({.bl false,g,i,ρ,e})
def KY(t:TT)(ta tb:TE):TE:=λd H Q=>t d H λc e=>if c=bi then ta d e Q else tb d e Q
theorem PH (l:PT X c tA)(m:PE X a ta)(n:PE X b tb):PE X (.IfExp c a b pos) (KY tA ta tb):=by
 $(λe s f H Q I h=>wpAny_IfExp (aI (l e s f H _ I h) λd g q=>?_));let(i,j,k):=q;cases d with
 |true=>$(m e g f i Q j k)
 |false=>$(n e g f i Q j k)
end
def cC(K:f')(H:Hp)(a:dn)(xs:List V):Prop :=
 Rd H a (.L xs) \/
  ∃(o:zI) (its:Array cm) (n:Nat),K.lookup a=al o/\o.cls=.type "list"/\o.dict=am/\o.data=.seq its n/\its.size<=c6/\aO xs its.toList
def bf(K:f')(H:Hp)(a:dn)(xs:List V):Prop :=
 Rd H a (.U xs) \/
  ∃(o:zI) (its:Array cm) (n:Nat),K.lookup a=al o/\o.cls=.type "tuple"/\o.data=.seq its n/\its.size<=c6/\aO xs its.toList
def T9:cm->Option V
 |.none=>some .aG
 |.bool b=>al (.bl b)
 |.int i _=>al (.int i)
 |.str x _=>al (.str x)
 |.bytes b _=>al (.j0 b)
 |.float b _=>al (.zJ b)
 |.ref a=>al (.ref a)
 |.type n=>al (.ty n)
 |_=>am
theorem RelV.abs (r:RelV x u):T9 u=al x:=by
 cases x with
 |aG=>$$r;rfl
 |bl _=>$$r;rfl
 |int _=>let(t,rfl):=r;rfl
 |str _=>let(t,rfl):=r;rfl
 |j0 _=>let(t,rfl):=r;rfl
 |zJ _=>let(t,rfl):=r;rfl
 |ref _=>$$r;rfl
 |ty _=>$$r;rfl
def RelV.inj (r:RelV x u)(q:RelV y u):x=y:=Option.some.inj<|r.abs.symm.trans q.abs
theorem aO.inj (h:aO xs us)(h':aO ys us):xs=ys:=by
 induction h generalizing ys with
 |nil=>$$$h';rfl
 |cons r t a =>
  cases h' with
  |cons b t'=>rw[r.inj b,a t']
section
variable{X:Cx}{pins:List (dn×zI)}{σ:St}{H:Hp}{s:cA}{a:dn}{xs ys:List V}{E:cm->cA->Prop}
def cC.of{K:f'}(h:H a=al (.L xs)):cC K H a xs:=ι<|ι h
def bf.of{K:f'}(h:H a=al (.U xs)):bf K H a xs:=ι<|ι h
def Inv.list(I:Inv X pins σ H s)(h:cC X.K H a xs):∃its:List cm,aO xs its/\PlainL s.heap a its.toArray/\xs.length<=sizeLine:=by
 let h||(o,its,n,b,c,hd,hs,hz,r):=h
 .let(z,its,n,r,e):=h.ok I.ao;$({its,r,{_,n,e,ρ,ρ,ρ},z})
 $({its.toList,r,{o,n,I.fY a o b,c,hd,by$$$$hs},?_});let e:=r.length;simp!
def Inv.tuple(I:Inv X pins σ H s)(h:bf X.K H a xs):∃its:List cm,aO xs its/\abx s.heap a its.toArray/\xs.length<=sizeLine:=by
 let h||(o,its,n,b,c,hs,hz,r):=h
 .let(z,its,r,p):=h.ok I.ao;$(⟨its,r,p,z⟩)
 $({its.toList,r,{o,I.fY a o b,c,n,by$$$$hs},?_});let e:=r.length;simp!
def Inv.Vk(I:Inv X pins σ H s)(h:cC X.K H a xs)(h':cC X.K H a ys):xs=ys:=by
 let(its,r,(o,n,e,_,_,d),_):=I.list h;let(its',c,(o',n',b,_,_,d'),_):=I.list h';rw[e]at b;$$$$$$b;rw[d]at d';injection d' with f _;let:its=its':=by$$$$(congrArg agG f)
 $$this;$(r.inj c)
def Inv.NH(I:Inv X pins σ H s)(h:bf X.K H a xs)(h':bf X.K H a ys):xs=ys:=by
 let(its,r,(o,e,_,n,d),_):=I.tuple h;let(its',c,(o',b,_,n',d'),_):=I.tuple h';rw[e]at b;$$$$$$b;rw[d]at d';injection d' with f _;let:its=its':=by$$$$(congrArg agG f)
 $$this;$(r.inj c)
abbrev Cx.jX(X:Cx)(E:cm->cA->Prop):Cx:={X with xe:=E}
abbrev Cx.jt(X:Cx):Cx:=X.jX λ_ _=>False
def Cx.Ok.jX (ok:X.Ok)(E:cm->cA->Prop):(X.jX E).Ok :=
 ⟨ok.mod,ok.kind,ok.glob,ok.blt,ok.above,ok.inj,ok.has,ok.mn,ok.hd,ok.frames,ok.kW,ok.r9,ok.bs,ok.jG,ok.mB,ok.pE,ok.ik,ok.lX⟩
def Cx.Ok.lY (ok:(X.jX E).Ok):X.Ok :=
 ⟨ok.mod,ok.kind,ok.glob,ok.blt,ok.above,ok.inj,ok.has,ok.mn,ok.hd,ok.frames,ok.kW,ok.r9,ok.bs,ok.jG,ok.mB,ok.pE,ok.ik,ok.lX⟩
def Inv.jX(I:Inv X pins σ H s)(E:cm->cA->Prop):Inv (X.jX E) pins σ H s:={I.ok.jX E,I.os,I.bare,I.base,I.loc,I.cell,I.free,I.fA,I.pin,I.ao,I.len}
def Inv.lY(I:Inv (X.jX E) pins σ H s):Inv X pins σ H s:=⟨I.ok.lY,I.os,I.bare,I.base,I.loc,I.cell,I.free,I.fA,I.pin,I.ao,I.len⟩
theorem SP.lY (h:SP (X.jX E) pins D f s'):SP X pins D f s':=by
 cases f with
 |next=>let(b,c,I,q):=h;$(⟨b,c,I.lY,q⟩)
 |brk=>let(b,c,I,q):=h;$(⟨b,c,I.lY,q⟩)
 |cont=>let(b,c,I,q):=h;$(⟨b,c,I.lY,q⟩)
 |ret u=>let(v,b,c,I,r,q):=h;$(⟨v,b,c,I.lY,r,q⟩)
def gu.jt{st:List aas}{t:TS}(h:gu X.jt st t):gu X st t:=λpins s σ H D I hw =>
 z6 (h pins s σ H D (I.jX _) hw) (λ_ _ q=>q.lY) λ_ _ z=>KX z
end
section
variable{X:Cx}{st:aas}{rest:List aas}{t u:TS}{e:hF}{te:TE}{pos:u1}
def TX:TS:=λD a H=>D.nx a H
def Px(t u:TS):TS:=λD a H=>t {D with nx:=u D} a H
def uo:gu X [] TX:=λ_ _ a H _ I h=>ab0 ⟨a,H,I,h⟩
theorem ot(c:PS X st t)(d:gu X rest u):gu X (st::rest) (Px t u):=by
 $(λa s g H D I h=>agZ (aI (c a s g H {D with nx:=u D} I h) λf i q=>?_));cases f with
 |next=>let(b,j,k,q):=q;$(d a i b j D k q)
 |ret v=>$q
 |brk=>$q
 |cont=>$q
theorem mT(b:PS X st t):gu X [st] t:=by
 ext a s c H D I h;$(agZ (aI (b a s c H D I h) λf s1 q=>?_));cases f with
 |next=>$(ab0 q)
 |ret v=>$q
 |brk=>$q
 |cont=>$q
def Inv.quiet (I:Inv X a b H s):interactive X.env=bn:=by simp[interactive,I.ok.kind]
def LR(te:TE):TS:=λD a H=>te a H λ_ b=>D.nx a b
def E9(c:PE X e te)(hs:z8 e am pos.line X.env=pure false:=by rfl):PS X (.Expr e pos) (LR te):=by$(λa s b H D I h=>wpAny_Expr_any (aI (c a s b H _ I h) λv s1 ⟨x,d,f,r1,g⟩=>⟨b,d,f,g⟩) I.quiet hs)
def RJ(te:TE):TS:=λD a H=>te a H D.rt
def nI(c:PE X e te):PS X (.Return (al e) pos) (RJ te):=by$(λa s b H D I h=>wpAny_Return_some (aI (c a s b H _ I h) λv s1 ⟨x,d,f,g,i⟩=>⟨x,b,d,f,g,i⟩))
def Nt(c:TT)(t u:TS):TS:=λD a H=>c a H λb d=>if b=bi then t D a d else u D a d
theorem uJ (m:PT X c tc)(n:gu X a t)(o:gu X b u):PS X (.If c a b pos) (Nt tc t u):=by
 $(λf s g H D I h=>wpAny_If (aI (m f s g H _ I h) λd i e=>?_));let(j,k,l):=e;cases d with
 |true=>$(n f i g j D k l)
 |false=>$(o f i g j D k l)
end
abbrev TG:=V->St->Hp->(St->Hp->Prop)->Prop
abbrev jR:=List V->St->Hp->(St->Hp->Prop)->Prop
def PG(X:Cx)(target:hF)(t:TG):Prop :=
 ∀(a:List (dn×zI)) (s:cA) (c:St) (H:Hp) (v:V) (u:cm) (Q:St->Hp->Prop),Inv X a c H s->RelV v u->t v c H Q ->
  gj (hM X.prog X.w) X.A (abL target X.env u) (λ_ s'=>∃b d,Inv X a b d s'/\Q b d) X.xe s
def qZ(X:Cx)(e:List hF)(t:jR):Prop :=
 ∀(a:List (dn×zI)) (s:cA) (c:St) (H:Hp) (vs:List V) (us:List cm) (Q:St->Hp->Prop),Inv X a c H s->aO vs us->t vs c H Q ->
  gj (hM X.prog X.w) X.A (assignInOrder ((u3 e X.env).map (·.2)) us) (λ_ s'=>∃b d,Inv X a b d s'/\Q b d) X.xe s
abbrev B2:=V->V->V->Hp->(Hp->Prop)->Prop
def El(X:Cx)(t:B2):Prop :=
 ∀(a:List (dn×zI)) (s:cA) (b:St) (H:Hp) (o i v:V) (c d u:cm) (Q:Hp->Prop),Inv X a b H s->RelV o c->RelV i d->RelV v u->t o i v H Q ->
  gj (hM X.prog X.w) X.A (afq c d u) (λ_ s'=>∃e,Inv X a b e s'/\Q e) X.xe s
section
variable{X:Cx}{pos:u1}
def wA(i:Nat):TG:=λv a H Q=>Q (a.set i<|al v) H
def N2 (a:X.N.Nodup)(b:X.N[i]?=al x)(c:Loc X.env.scope x)(d:X.fn x=bi\/X.env.scope.names.lookup x=some .local:=by first|$(ι ρ)|$(τ ρ)|assumption):PG X (.Name x pos) (wA i):=by$(λpins s σ H v u Q I r h=>agL<|Ax I a b c r (λs' e=>⟨_,H,e,h⟩) d)
def VR:jR:=λvs a H Q=>vs=[]/\Q a H
def LJ(t:TG)(u:jR):jR:=λvs b H Q=>∃v r,vs=v::r/\t v b H λa c=>u r a c Q
def Kq:qZ X [] VR:=by ext pins s a H vs us Q I r h;let(e,h):=h;$$e;$$$r;$(assignInOrder_nil ⟨a,H,I,h⟩)
theorem Nz (d:PG X e t)(f:qZ X b u)(hs:(u3 (e::b) X.env).map (·.2)=abL e X.env::(u3 b X.env).map (·.2):=by rfl):qZ X (e::b) (LJ t u):=by
 ext a s g H vs us Q I r h;let(v,vr,i,h):=h;$$i;cases r with
 |cons r j=>rw[hs];$(assignInOrder_cons (aI (d a s g H _ _ _ I r h) λ_ k f=>?_));let(c,l,m,n):=f;$(f a k c l _ _ Q m j n)
def UA(K:f')(n:Nat)(t:jR):TG:=λv b H Q=>∃a xs,v=.ref a/\bf K H a xs/\xs.length=n/\t xs b H Q
def Wj (j:X.calm=bi)(h:qZ X d t)(l:(u3 d X.env).length=n:=by rfl)(f:(u3 d X.env).findIdx? (·.1)=am:=by rfl):PG X (.Tuple d k pos) (UA X.K n t):=by ext c s g H v u Q I r hw;let(a,xs,m,p,hl,hw):=hw;$$m;$$r;let(its,i,q,hz):=I.tuple p;$(assign_Tuple_tuple (I.ok.hd j) q (by simp[l,<-hl,i.length]) f λh' w=>?_);let x:=I.kept (t':=s.toks) λb o e=>w b o (gD<|fj e) e;$(h c _ g H xs _ Q x (i) hw)
def XS(to b:TE)(t:B2):TG:=λv a H Q=>to a H λo c=>b a c λi d=>t o i v d λe=>Q a e
def Ol (ho:PE X o to)(f:PE X i e)(hs:El X t)(g:∀v,abL (.Subscript o i pos) X.env v=(do
   let b <-aaB [v] (eval o X.env);let c <-aaB [v,b] (eval i X.env)
   adX pos
   aaB [v,b,c] (afq b c v)
   release [v,b,c] []):=by ext _;rfl):PG X (.Subscript o i pos) (XS to e t):=by
 ext a s d H v u Q I r h;rw[g];$(bg<|pl (aI (ho a s d H _ I h) λb j g=>?_));let(x,k,l,m,n):=g;$(bg<|pl (aI (f a j d k _ l n) λc p h=>?_));let(y,q,w,z,A):=h;$(bg<|adB<|bg<|pl (aI (hs a p d q x y v b c u _ w m z r A) λ_ s3 h=>?_));let(B,C,D):=h;$(wpAny_release ⟨d,B,C,D⟩)
def yN(te:TE)(g:TG):TS:=λD a H=>te a H λx b=>g x a b D.nx
def Wx (d:PE X e te)(f:PG X a g)(hs:ae4 [a] e pos.line X.env=pure false:=by rfl)(hw:ae5 [a] e X.env=pure am:=by rfl)(i:(u3 [a] X.env).map (·.2)=[abL a X.env]:=by rfl):PS X (.Assign [a] e pos) (yN te g):=by$(λb s c H D I h=>wpAny_Assign_stores (aI (d b s c H _ I h) λv j g=>?_) hs hw);let(x,k,l,m,n):=g;rw[i];$(aI (f b j c k x v _ l m n) λ_ s2 q=>q)
def Ct (c:X.N.Nodup)(d:X.N[i]?=al x)(f:Loc X.env.scope x)(g:PE X e te)(hs:z8 e (al<|.Name x a) pos.line X.env=pure false:=by rfl)(j:X.fn x=bi\/X.env.scope.names.lookup x=some .local:=by first|$(ι ρ)|$(τ ρ)|assumption) :
  PS X (.Assign [.Name x a] e pos) (yN te<|wA i):=by
 $(λb s k H D I h=>wpAny_Assign_Name (aI (g b s k H _ I h) λv s1 f=>?_) hs);let(y,l,m,n,o):=f;$(Ax m c d f n (λs2 p=>{_,l,p,o}) j)
def K'(c:TT)(h:TS):TS:=λD a H=>∃W:Nat->St->Hp->Prop,(∃m,W m a H)/\∀m a H,W m a H ->
 c a H λb e=>if b=bi then∃N:St->Hp->Prop,(∀d f,N d f->∃g,g<m/\W g d f)/\h {D with nx:=N,ct:=N,bk:=D.nx} a e else D.nx a e
theorem MZ{c:hF}{body:List aas}{tc:TT}{q:TS}(r:adk (hM X.prog X.w) X.A X.env X.xe)(B:PT X c tc)(C:gu X body q):PS X (.While c body [] pos) (K' tc q):=by
 ext d s E H D I h;let(W,(F,G),turn):=h;$(wpAny_While<|codeAny_whileLoop (λn s'=>∃k t,Inv X d k t s'/\W n k t) ?_ F ⟨E,H,I,G⟩);ext n J ⟨e,u,K,L⟩;$(aaI r (aI (B d J e u _ K<|turn n e u L) λb M h=>?_));let(x,y,i):=h;cases b with
 |true =>
  let(N,z,i):=i;$(aaI r (aI (C d M e x _ y i) λf s3 j=>?_));cases f with
  |next=>let(a,g,l,m):=j;let(o,hm,p):=z a g m;$(⟨o,hm,a,g,l,p⟩)
  |cont=>let(a,g,l,m):=j;let(o,hm,p):=z a g m;$(⟨o,hm,a,g,l,p⟩)
  |brk=>$j
  |ret v=>$j
 |false=>$(ab0 ⟨e,x,y,i⟩)
end
structure It where
 go:Nat->Hp->Prop
 nZ:Nat->Hp->V->Hp->Prop
 stop:Nat->Hp->Prop
def jY(X:Cx)(a:List (dn×zI))(H:Hp)(b:dn):Prop :=
 H b=am/\b≠X.env.locals/\b∉X.fs/\(b∈X.ex\/X.dj.heap.objs.size<=b)/\(∀x c,X.env.cells.lookup x=al c->c≠b)/\∀p∈X.pn++a,p.1≠b
theorem Inv.lj{X:Cx}{a:List (dn×zI)}{g:St}{H f:Hp}{s:cA}{b:dn}(I:Inv X a g H s)(d:s.heap.objs.size<=b)(h:f b=am):jY X a f b:=by
 $({h,abh<|iN I.lt d,I.R9 d,τ<|n5 I.sz d,λx c e z=>?_,λp i z=>?_})
 .let(v,q):=I.cell x c e;$(absurd (iN q.lt (by rw[z];$d))<|uz _)
 $(absurd (iN (fj (I.pin p i).1) (by rw[z];$d))<|uz _)
structure Turn (P:hZ) (w:nL) (K:f') (tg:hF) (J:It) (fp:List dn) (it:dn) (tn:Nat->nk->Prop):Prop where
 mem:it∈fp
 obj:∀i h,tn i h->∀b∈fp,∃o,h.get? b=al o/\∀v,o.data≠.cell v
 keep:∀i h h',tn i h->(∀b∈fp,∀o,h.get? b=al o->h'.get? b=al o)->tn i h'
 item:∀(X:Cx),X.prog=P->X.w=w->X.K=K->X.calm=bi->∀(i:Nat) (pins:List (dn×zI)) (s:cA) (σ:St) (H:Hp) (E:cm->cA->Prop),Inv X pins σ H s->(∀b∈fp,jY X pins H b)->tn i s.heap->J.go i H ->
  gj (hM P w) X.A (aa2<|.ref it) (λr s1=>∃u,r=al u /\
   gj (hM P w) X.A (acU tg (.ref it) u) (λ_ s2=>∃x H',Inv X pins σ H' s2/\RelV x u/\J.nZ i H x H'/\tn (i+1) s2.heap/\∀b∈fp,H' b=am) E s1) E s
 done:∀(X:Cx),X.prog=P->X.w=w->X.K=K->X.calm=bi->∀(i:Nat) (pins:List (dn×zI)) (s:cA) (σ:St) (H:Hp) (E:cm->cA->Prop),Inv X pins σ H s->(∀b∈fp,jY X pins H b)->tn i s.heap->J.stop i H ->
  gj (hM P w) X.A (aa2<|.ref it) (λr s1=>r=am/\Inv X pins σ H s1) E s
 self:∀(A:ow) (i:Nat) (s:cA) (Q:cm->cA->Prop) (E:cm->cA->Prop),tn i s.heap->Q (.ref it) s->gj (hM P w) A (afs<|.ref it) Q E s
abbrev TI:=St->Hp->(It->Hp->Prop)->Prop
def EC(X:Cx)(a:List (dn×zI))(h:St)(i:hF)(R:It->Hp->Prop)(d:cm)(e:cA):Prop :=
 ∃(it:dn) (f:List dn) (g:Nat->nk->Prop) (J:It) (c:Hp),d=.ref it/\Inv X a h c e/\Turn X.prog X.w X.K i J f it g/\g 0 e.heap/\(∀b∈f,jY X a c b)/\R J c
def PI(X:Cx)(c iter:hF)(d:TI):Prop :=
 ∀(a:List (dn×zI)) (s:cA) (b:St) (H:Hp) (R:It->Hp->Prop),Inv X a b H s->d b H R ->
  gj (hM X.prog X.w) X.A (eval iter X.env) (λv e=>gj (hM X.prog X.w) X.A (afs v) (EC X a b c R) X.xe e) X.xe s
theorem rl (ho:s.heap.get? it=al o)(c:o.cls=.type n)(hd:o.data=.fields vs)(d:["enumerate","zip","dict_itemiterator","dict_reverseitemiterator","odict_iterator","itertools.zip_longest","itertools.pairwise"].contains n=bn)(a:Q () s):gj M A (acU b (.ref it) u) Q E s:=by
  cases b<;>first
    |$(dr a)
    | ($$$u<;>first
        |$(dr a)
        | ($(bg (agl ho ?_))
           rw[c,hd];show gj M A (if(["enumerate","zip","dict_itemiterator","dict_reverseitemiterator","odict_iterator","itertools.zip_longest","itertools.pairwise"].contains n&&vs[0]?==al (aa9 _))=bi then _ else _) Q E s;rw[if_neg (by ext h;rw[d,aeg]at h;lk)]
           exact dr a))
def CZ(K:f')(a:dn):It :=
 ⟨λi H=>∃xs x,cC K H a xs/\xs[i]?=al x,λi H x b=>b=H/\∀xs,cC K H a xs->xs[i]?=al x,λi H=>∃xs,cC K H a xs/\xs.length<=i⟩
def Gr(K:f')(a:dn):It :=
 ⟨λi H=>∃xs x,bf K H a xs/\xs[i]?=al x,λi H x b=>b=H/\∀xs,bf K H a xs->xs[i]?=al x,λi H=>∃xs,bf K H a xs/\xs.length<=i⟩
def rC(lo:Int)(n:Nat):It:={λi _=>i<n,λi H x a=>a=H/\x=.int (lo+i),λi _=>n<=i}
def SU{P:hZ}{w:nL}{K:f'}{L:hF}(a it:dn):Turn P w K L (CZ K a) [it] it (λi h=>h.IsListIter it a i) where
 mem:=⋯
 obj:=λi h st b f=>by
  let e:b=it:=by$$$$f
  $$e;let(o,e,c,d):=st;$({o,e,λv z=>by rw[d]at z;lk})
 keep:=λi h h' st k=>st.at λo e=>k it ⋯ o e
 item:=by ext X n hw q G i g s J H E I j st r;subst n hw q;let(xs,x,l,t):=r;let(its,y,p,hz):=I.list l;let(u,M,N):=y.get t;let(A,B,O,C,D,F):=j it ⋯;$(wpAny_pyNext_list_item st p.isList (by$$$$M) λh' m Q=>?_);let R:=I.turned (t':=s.toks) (λb o f e=>(Q.2 b f).trans e) A B C D F;let(o,e,c,d):=id m;$({u,ρ,rl e c d ρ {x,H,R,N,{ρ,λys S=>by rw[I.Vk S l];$t},m,λb f=>(j b f).1}})
 done:=by ext X n hw q G i g s J H E I j st r;subst n hw q;let(xs,l,t):=r;let(its,y,p,hz):=I.list l;let(A,B,O,C,D,F):=j it ⋯;let hl:=y.length;$(wpAny_pyNext_list_end (I.ok.hd G) st p.isList (by simp;$_) λh' T=>{ρ,I.turned (λb o f e=>T b o f e) A B C D F})
 self:=λ_ _ _ _ _ st h=>wpAny_pyIter_listiter st h
def OQ{P:hZ}{w:nL}{K:f'}{G:hF}(a it:dn):Turn P w K G (Gr K a) [it] it (λi h=>h.IsTupleIter it a i) where
 mem:=⋯
 obj:=λi h st b f=>by
  let e:b=it:=by$$$$f
  $$e;let(o,e,c,d):=st;$({o,e,by lia})
 keep:=λi h h' st k=>st.at λo e=>k it ⋯ o e
 item:=by ext X n hw q D i g s F H E I j st r;subst n hw q;let(xs,x,l,t):=r;let(its,v,p,hz):=I.tuple l;let(u,J,L):=v.get t;let(y,z,M,A,B,C):=j it ⋯;$(wpAny_pyNext_tuple_item st (p) (by$$$$J) λh' m N=>?_);let O:=I.turned (t':=s.toks) (λb o f e=>(N.2 b f).trans e) y z A B C;let(o,e,c,d):=id m;$({u,ρ,rl e c d ρ {x,H,O,L,{ρ,λys Q=>by rw[I.NH Q l];$t},m,λb f=>(j b f).1}})
 done:=by ext X n hw q D i g s F H E I j st r;subst n hw q;let(xs,l,t):=r;let(its,v,p,hz):=I.tuple l;let(y,z,M,A,B,C):=j it ⋯;let hl:=v.length;$(wpAny_pyNext_tuple_end (I.ok.hd D) st (p) (by simp;$_) λh' R=>{ρ,I.turned (λb o f e=>R b o f e) y z A B C})
 self:=λ_ _ _ _ _ st h=>wpAny_pyIter_tupleiter st h
def Sv{P:hZ}{w:nL}{K:f'}{A:hF}(it:dn)(lo:Int)(n:Nat):Turn P w K A (rC lo n) [it] it (λi h=>IsRangeIter h it (lo+(i:Nat)*1) ((n:Int)-(i:Nat)) 1) where
 mem:=⋯
 obj:=λi h st b a=>by
  let e:b=it:=by$$$$a
  $$e;$({_,st,λv z=>by let z':ahj _=Data.cell v:=z;lk})
 keep:=λi h h' st k=>k it ⋯ _ st
 item:=by ext X g hw j l i c s y H E I d st m;subst g hw j;let(p,q,B,r,u,x):=d it ⋯;let W:=Walks.range (prog:=X.prog) (w:=X.w) (I.ok.hd l) it lo 1 n;$(W.item i s _ _ m st λv h' tk C f D=>?_);let(t,rfl):=C;let F:Inv X c y H {s with heap:=h',toks:=tk}:=I.turned (λb o a e=>D b o (by$$$$a) e) p q r u x;$({_,ρ,rl f ρ ρ ρ {.int<|lo+i,H,F,⟨t,?_⟩,⟨ρ,ρ⟩,f,λb a=>(d b a).1}});rw[Int.mul_one]
 done:=by ext X g hw j l i c s y H E I d st m;let(p,q,B,r,u,x):=d it ⋯;$(wpAny_pyNext_range_end (I.ok.hd l) st (by let:n<=i:=m;$_) λh' G=>{ρ,I.turned (λb o a e=>G b o a e) p q r u x})
 self:=λ_ _ _ _ _ st h=>wpAny_pyIter_rangeiter st h
section
variable{X:Cx}{tg:hF}
def Kw(K:f')(c:TE):TI:=λd H R=>c d H λx b=>∃a,x=.ref a/\(∃xs,cC K b a xs)/\R (CZ K a) b
def NC(K:f')(c:TE):TI:=λd H R=>c d H λx b=>∃a,x=.ref a/\(∃xs,bf K b a xs)/\R (Gr K a) b
def LO (hl:PE X l g):PI X tg l (Kw X.K g):=by
 $(λf s i H R I h=>aI (hl f s i H _ I h) λv c g=>?_);let(x,j,d,k,m):=g;let(a,e,(xs,n),q):=m;$$e;$$k;let(its,rv,p,hz):=d.list n;apply ZG p.isList;$({c.heap.objs.size,[c.heap.objs.size],_,_,j,ρ,d.kept λb o e=>eu _ e,SU a _,{_,gi _ ρ,ρ,ρ},λb r=>?_,q});let e:b=c.heap.objs.size:=by$$$$r
 $$e;$(d.lj (eT _)<|d.ao.fresh<|eT _)
def M4 (hl:PE X l g):PI X tg l (NC X.K g):=by
 $(λf s i H R I h=>aI (hl f s i H _ I h) λv c g=>?_);let(x,j,d,k,m):=g;let(a,e,(xs,n),q):=m;$$e;$$k;let(its,rv,p,hz):=d.tuple n;apply wpAny_pyIter_tuple<|p;$({c.heap.objs.size,[c.heap.objs.size],_,_,j,ρ,d.kept λb o e=>eu _ e,OQ a _,{_,gi _ ρ,ρ,ρ},λb r=>?_,q});let e:b=c.heap.objs.size:=by$$$$r
 $$e;$(d.lj (eT _)<|d.ao.fresh<|eT _)
def D'{c:List (dn×zI)}{d:St}{H:Hp}{s:cA}{R:It->Hp->Prop}{E:cm->cA->Prop}{lo a:Int}{t u v:Tok}{tk:Nat}(I:Inv X c d H s)(g:-(2 ^ 62)<=lo)(h:lo<2 ^ 62)(i:-(2 ^ 62)<=a)(j:a<2 ^ 62)
 (q:R (rC lo (a-lo).toNat) H):gj (hM X.prog X.w) X.A (afs<|.ref s.heap.objs.size) (EC X c d tg R) E {s with heap:=s.heap.push {cls:=.type "range",data:=.fields #[.int lo t,.int a u,.int 1 v]},toks:=tk}:=by
 apply wpAny_pyIter_range (IsRange.new ..)<|small_one g h i j;let f:Inv X c d H {s with heap:=s.heap.push {cls:=.type "range",data:=.fields #[.int lo t,.int a u,.int 1 v]},toks:=tk}:=I.kept λb o e=>eu _ e
 $(⟨(s.heap.push {cls:=.type "range",data:=.fields #[.int lo t,.int a u,.int 1 v]}).objs.size,[(s.heap.push {cls:=.type "range",data:=.fields #[.int lo t,.int a u,.int 1 v]}).objs.size],_,_,H,ρ,
  f.kept λb o e=>eu _ e,Sv _ lo (a-lo).toNat,?_,λb k=>?_,q⟩)
 .let l:lo+((0:Nat):Int)*1=lo:=⋯;let m:(((a-lo).toNat:Nat):Int)-((0:Nat):Int)=ahn lo a 1:=by grind [rangeSize_one]
  rw[l,m];$(gi _ ρ)
 let e:b=(s.heap.push {cls:=.type "range",data:=.fields #[.int lo t,.int a u,.int 1 v]}).objs.size:=by$$$$k
 $$e;$(f.lj (eT _)<|f.ao.fresh<|eT _)
def P8(a:TA):TI:=λb H R=>a b H λvs c=>∃j:Int,vs=[.int j]/\-(2 ^ 62)<=j/\j<2 ^ 62/\R (rC 0 j.toNat) c
def W2(a:TA):TI:=λb H R=>a b H λvs c=>∃i j:Int,vs=[.int i,.int j]/\(-(2 ^ 62)<=i/\i<2 ^ 62/\-(2 ^ 62)<=j/\j<2 ^ 62)/\R (rC i (j-i).toNat) c
theorem M3{a:hF}{d:TA}{p pos:u1}(f:Gl X "range")(hm:X.mg "range"=am)(g:PA X [a] d)(hs:km [a] X.env=[(false,eval a X.env)]:=by rfl):PI X tg (.Call (.Name "range" p) [a] [] pos) (P8 d):=by
 $(λb s i H R I h=>Call_<|oC I f hm boot_range<|HT (aI (g pos b s i H _ I h) λus s1 e=>?_) hs ρ);let(vs,H1,k,l,c):=e;let(j,e,c,m,q):=c;$$e;cases l with
 |cons r n =>
  $$$n;let(t,rfl):=r;$(call_range_1<|D' k ⋯ ⋯ c m (by$$$$q))
theorem LQ{a b:hF}{k:TA}{p pos:u1}(l:Gl X "range")(hm:X.mg "range"=am)(m:PA X [a,b] k)(hs:km [a,b] X.env=[(false,eval a X.env),(false,eval b X.env)]:=by rfl)(c:km [b] X.env=[(false,eval b X.env)]:=by rfl) :
  PI X tg (.Call (.Name "range" p) [a,b] [] pos) (W2 k):=by
 $(λd s n H R I h=>Call_<|oC I l hm boot_range<|HT (aI (m pos d s n H _ I h) λus s1 g=>?_) (by rw[hs,c]) (by rw[c];rfl));let(vs,H1,o,u,f):=g;let(i,j,e,(f,v,w,x),q):=f;$$e;cases u with
 |cons r g =>
  cases g with
  |cons y g =>
   $$$g;let(t,rfl):=r;let(t',rfl):=y;$(call_range_2<|D' o f v w x q)
def Qs(f:TI)(g:TG)(h:TS):TS:=λD a H=>f a H λJ j=>∃W:Nat->Nat->St->Hp->Prop,(∃m,W 0 m a j)/\∀i m a H,W i m a H ->
 (J.stop i H/\D.nx a H)\/(J.go i H/\∃N:St->Hp->Prop,(∀c b,N c b->∃d,d<m/\W (i+1) d c b)/\∀x b,J.nZ i H x b->g x a b λe k=>h {D with nx:=N,ct:=N,bk:=D.nx} e k)
def tQ(a:List dn)(h:nk):List (dn×zI):=a.filterMap λb=>(h.get? b).map λo=>(b,o)
theorem wD{a:List dn}{h:nk}{b:dn}{o:zI}(c:b∈a)(e:h.get? b=al o):(b,o)∈tQ a h:=pz.2 {b,c,by rw[e];rfl}
theorem To (c:p∈tQ a h):p.1∈a/\h.get? p.1=al p.2:=by
 let(b,d,e):=pz.1 c;cases q:h.get? b with
 |none=>rw[q]at e;$(nO e)
 |some o=>rw[q]at e;let f:=Option.some.inj e;$$f;$(⟨d,q⟩)
def Inv.pinned (I:Inv X a f H s)(i:∀b∈c,jY X a H b)(ho:∀b∈c,∃o,s.heap.get? b=al o/\∀v,o.data≠.cell v):Inv X (a++tQ c s.heap) f H s :=
 I.J9 λp j=>(eK.1 j).elim (λz=>I.pin p<|r0 _ z) λz=>by let(g,e):=To z;let(k,l,m,_):=i p.1 g;let(o,h,d):=ho p.1 g;rw[e]at h;$$$$$$h;$(⟨e,k,l,m,d⟩)
def Inv.wB (I:Inv X (a++c) b H s):Inv X a b H s:=I.J9 λp d=>I.pin p<|r0 _<|abD _ d
theorem Sg{iter:hF}{body:List aas}{P:TI}{g:TG}{Q:TS}{pos:u1}(B:adk (hM X.prog X.w) X.A X.env X.xe)(R:X.calm=bi)(hi:PI X tg iter P)(hg:PG X tg g)(j:gu X body Q)
 (hs:∀x,um iter X.env x=pure x:=by ext _;rfl):PS X (.For tg iter body [] pos) (Qs P g Q):=by
 $(λc s S H D I h=>wpAny_For (aI (hi c s S H _ I h) λv s1 h1=>aI h1 λitv s2 h2=>?_) hs);let(it,C,U,J,H2,e,I2,T,V,Y,W,(m0,w0),turn):=h2;$$e;let z:∀{p:Hp},(∀b∈C,p b=am)->∀b∈C,jY X c p b:=λhn b j=>{hn b j,(Y b j).2};$(codeAny_forLoop_any (λn s'=>∃i q p,Inv X c q p s'/\U i s'.heap/\(∀b∈C,p b=am)/\W i n q p) ?_ m0 {0,S,H2,I2,V,λb j=>(Y b j).1,w0});ext n Z ⟨i,t,G,I3,K,L,w3⟩;let(stop,qn)||(go,N,hN,step):=turn i n t G w3
 .$(aaI B (aI (T.done X ρ ρ ρ R i c Z t G X.xe I3 (z L) K stop) λr s4 h=>?_));let(M,I4):=h;$$M;$(ab0 ⟨t,G,I4,qn⟩)
 $(aaI B (aI (T.item X ρ ρ ρ R i c Z t G X.xe I3 (z L) K go) λr s4 h=>?_));let(u,M,h4):=h;$$M;$(aaI B (aI h4 λ_ s5 ⟨x,H5,I5,r5,y5,E,YD⟩=>?_));$(aaI B (aI (hg _ s5 t H5 x u _ (I5.pinned (z YD)<|T.obj _ _ E) r5<|step x H5 y5) λ_ s6 h=>?_));let(YF,H6,I6,q6):=h;$(aaI B (aI (j _ s6 YF H6 _ I6 q6) λf O y=>?_));let again:∀{a:St}{k:Hp},Inv X (c++tQ C s5.heap) a k O->N a k->∃m,m<n/\∃i q p,Inv X c q p O/\U i O.heap/\(∀b∈C,p b=am)/\W i m q p:=λ{a k} l F=>by let(m',hm,w7):=hN a k F;$({m',hm,i+1,a,k,l.wB,T.keep _ _ _ E λb j o e=>(l.pin (b,o)<|r0 _<|r0 _<|wD j e).1,λb j=>?_,w7});let(o,e,d):=T.obj _ _ E b j;$((l.pin (b,o)<|r0 _<|r0 _<|wD j e).2.1)
 cases f with
 |next=>let(a,k,l,F):=y;$(again l F)
 |cont=>let(a,k,l,F):=y;$(again l F)
 |brk=>let(a,k,l,y):=y;$(⟨a,k,l.wB,y⟩)
 |ret v=>let(x7,a,k,l,r7,y):=y;$(⟨x7,a,k,l.wB,r7,y⟩)
end
abbrev R2:=V->V->Hp->VK->Prop
def aZ(X:Cx)(f:cm->cm->Sem cm)(r:R2):Prop :=
 ∀(a:List (dn×zI)) (s:cA) (b:St) (H:Hp) (x y:V) (v u:cm) (Q:VK),Inv X a b H s->RelV x v->RelV y u->r x y H Q ->
  gj (hM X.prog X.w) X.A (f v u) (EP X a b Q) X.xe s
def BY(X:Cx)(f:cm->Sem cm)(r:V->Hp->VK->Prop):Prop :=
 ∀(a:List (dn×zI)) (s:cA) (b:St) (H:Hp) (x:V) (v:cm) (Q:VK),Inv X a b H s->RelV x v->r x H Q ->
  gj (hM X.prog X.w) X.A (f v) (EP X a b Q) X.xe s
def bN(X:Cx)(f:cm)(r:List V->Hp->VK->Prop):Prop :=
 ∀(a:List (dn×zI)) (s:cA) (b:St) (H:Hp) (xs:List V) (us:List cm) (Q:VK),Inv X a b H s->aO xs us->r xs H Q ->
  gj (hM X.prog X.w) X.A (call f us) (EP X a b Q) X.xe s
def Vh(X:Cx)(r:V->Hp->(Bool->Hp->Prop)->Prop):Prop :=
 ∀(a:List (dn×zI)) (s:cA) (b:St) (H:Hp) (x:V) (v:cm) (Q:Bool->Hp->Prop),Inv X a b H s->RelV x v->r x H Q ->
  gj (hM X.prog X.w) X.A (agq v) (TP X a b Q) X.xe s
def qB(r:R2)(b c:TE):TE:=λa H Q=>b a H λx d=>c a d λy e=>r x y e Q
def Qy(r:V->Hp->VK->Prop)(a:TE):TE:=λb H Q=>a b H λx c=>r x c Q
def rI(C:Int->Int->Prop)(g:Int->Int->V):R2:=λx y H Q=>∃i j,x=.int i/\y=.int j/\C i j/\Q (g i j) H
def iZ(g:Int->Int->V):R2:=λx y H Q=>∃i j,x=.int i/\y=.int j/\Q (g i j) H
def rU(g:Int->V):V->Hp->VK->Prop:=λx H Q=>∃i,x=.int i/\Q (g i) H
section
variable{X:Cx}{a b c:hF}{ta tb tc:TE}{pos:u1}
def AK(m:PE X a ta)(n:PE X b tb){R:V->V->Hp->Prop}(I:Inv X d e H s)(h:ta e H λx j=>tb e j λy g=>R x y g){Q:cm->cA->Prop}{f:cm->cm->Sem cm}(o:∀v u i x y g,Inv X d e g i->RelV x v->RelV y u->R x y g->gj (hM X.prog X.w) X.A (f v u) Q X.xe i) :
  gj (hM X.prog X.w) X.A (eval a X.env) (λv k=>gj (hM X.prog X.w) X.A (eval b X.env) (λu l=>gj (hM X.prog X.w) X.A (f v u) Q X.xe l) X.xe k) X.xe s:=by
 $(aI (m d s e H _ I h) λv p g=>?_);let(x,j,q,r,t):=g;$(aI (n d p e j _ q t) λu i h=>?_);let(y,g,z,B,C):=h;$(o v u i x y g z r B C)
def P4 (ho:BY X (unaryOp op) r)(f:PE X a ta):PE X (.UnaryOp op a pos) (Qy r ta):=by$(λd s e H Q I h=>UnaryOp_ (aI (f d s e H _ I h) λv g ⟨x,i,j,k,l⟩=>ho d g e i x v Q j k l))
def wo{f:cm->cm->Sem cm}{C:Int->Int->Prop}{g:Int->Int->Int}
 (rule:∀(i j:Int) (t u:Tok) (s:cA) (Q:cm->cA->Prop) (E:cm->cA->Prop),C i j->Q (.int (g i j) s.toks) {s with toks:=s.toks+1}->gj (hM X.prog X.w) X.A (f (.int i t)<|.int j u) Q E s) :
  aZ X f (rI C λi j=>.int<|g i j):=by
 ext pins s σ H x y v u Q I d e h;let(i,j,rfl,rfl,k,q):=h;let(t,rfl):=d;let(t',rfl):=e;$(rule i j t t' s _ _ k {.int<|g i j,H,I.tok _,⟨_,ρ⟩,q})
def D3{f:cm->cm->Sem cm}{g:Int->Int->Int}
 (rule:∀(i j:Int) (t u:Tok) (s:cA) (Q:cm->cA->Prop) (E:cm->cA->Prop),Q (.int (g i j) s.toks) {s with toks:=s.toks+1}->gj (hM X.prog X.w) X.A (f (.int i t)<|.int j u) Q E s) :
  aZ X f (iZ λi j=>.int<|g i j):=by
 ext pins s σ H x y v u Q I d e h;let(i,j,rfl,rfl,q):=h;let(t,rfl):=d;let(t',rfl):=e;$(rule i j t t' s _ _ {.int<|g i j,H,I.tok _,⟨_,ρ⟩,q})
def u6{f:cm->cm->Sem cm}{g:Int->Int->Bool}
 (rule:∀(i j:Int) (t u:Tok) (s:cA) (Q:cm->cA->Prop) (E:cm->cA->Prop),Q (.bool<|g i j) s->gj (hM X.prog X.w) X.A (f (.int i t)<|.int j u) Q E s) :
  aZ X f (iZ λi j=>.bl<|g i j):=by
 ext pins s σ H x y v u Q I d e h;let(i,j,rfl,rfl,q):=h;let(t,rfl):=d;let(t',rfl):=e;$(rule i j t t' s _ _ {.bl<|g i j,H,I,ρ,q})
def NX(i j:Int):Prop:=0<=j/\j<=1000000/\i.natAbs<2 ^ 64
def Q4:aZ X (aar .Mod) (rI (λ_ j=>0<j) λi j=>.int<|i%j):=wo λi j _ _ _ _ _ d q=>by$(mod_int' (by lia) (by rw[Int.fmod_eq_emod_of_nonneg i (by lia)];$q))
def TQ:aZ X (aar .Pow) (rI NX λi j=>.int<|i ^ j.toNat):=wo λ_ _ _ _ _ _ _ d q=>pow_int_small d.1 d.2.1 d.2.2 q
def Qq{f:cm->Sem cm}{g:Int->Int}
 (rule:∀(i:Int) (t:Tok) (s:cA) (Q:cm->cA->Prop) (E:cm->cA->Prop),Q (.int (g i) s.toks) {s with toks:=s.toks+1}->gj (hM X.prog X.w) X.A (f<|.int i t) Q E s) :
  BY X f (rU λi=>.int<|g i):=by
 ext pins s σ H x v Q I d h;let(i,rfl,q):=h;let(t,rfl):=d;$(rule i t s _ _ {.int<|g i,H,I.tok _,⟨_,ρ⟩,q})
def Ur:V->V->Bool
 |.aG,.aG=>true|.aG,.int _=>true|.int _,.aG=>true|.aG,.bl _=>true|.bl _,.aG=>true|.aG,.str _=>true|.str _,.aG=>true
 |.int _,.int _=>true|.bl _,.bl _=>true|.str _,.str _=>true|.j0 _,.j0 _=>true
 |.int _,.str _=>true|.str _,.int _=>true|.bl _,.str _=>true|.str _,.bl _=>true
 |_,_=>false
def XF:R2:=λx y H Q=>Ur x y=bi/\Q (.bl<|bd<|x=y) H
def N0:bd (V.int i=V.int j)=(i==j):=by rw[ph];simp
def QZ:bd (V.bl i=V.bl j)=(i==j):=by rw[ph];simp
def M5:bd (V.str i=V.str j)=(i==j):=by rw[ph];simp
def Lx:bd (V.j0 i=V.j0 j)=(i.toList==j.toList):=by rw[ph];$$$i;$$$j;simp
def gh (I:Inv X d f H s)(q:Q (.bl k) H)(e:k=g):EP X d f Q (.bool g) s:=by$$e;$({.bl k,H,I,ρ,q})
theorem Am:aZ X (nr .Eq) XF:=by
 ext pins s σ H x y v u Q I e d h;let(hs,q):=h;cases x with
 |aG =>
  $$$e;cases y with
  |aG=>$$d;$(ahy (gh I q ρ))
  |bl j=>$$d;$(ahA (gh I q ρ))
  |int j=>let(t',rfl):=d;$(ahz (gh I q ρ))
  |str j=>let(t',rfl):=d;$(ahx (gh I q ρ))
  |_=>$(absurd (hs) s9)
 |bl i =>
  $$e;cases y with
  |aG=>$$d;$(ahC (gh I q ρ))
  |bl j=>$$d;$(eq_bool (gh I q QZ))
  |str j=>let(t',rfl):=d;$(ahi (gh I q ρ))
  |_=>$(absurd (hs) s9)
 |int i =>
  let(t,rfl):=e;cases y with
  |aG=>$$d;$(ahB (gh I q ρ))
  |int j=>let(t',rfl):=d;$(eq_int (gh I q N0))
  |str j=>let(t',rfl):=d;$(ahh (gh I q ρ))
  |_=>$(absurd (hs) s9)
 |str i =>
  let(t,rfl):=e;cases y with
  |aG=>$$$d;$(ahw (gh I q ρ))
  |bl j=>$$$d;$(ahg (gh I q ρ))
  |int j=>let(t',rfl):=d;$(ahf (gh I q ρ))
  |str j=>let(t',rfl):=d;$(eq_str (gh I q M5))
  |_=>$(absurd (hs) s9)
 |j0 i =>
  let(t,rfl):=e;cases y with
  |j0 j=>let(t',rfl):=d;$(W.eq_bytes (gh I q Lx))
  |_=>$(absurd (hs) s9)
 |_=>$$$y<;>$(absurd (show false=bi from hs) s9)
def Cf:aZ X (nr .Lt) (iZ λi j=>.bl<|bd<|i<j):=u6 λ_ _ _ _ _ _ _ q=>lt_int q
def FR:aZ X (nr .Gt) (iZ λi j=>.bl<|bd<|j<i):=u6 λ_ _ _ _ _ _ _ q=>gt_int q
def DH:aZ X (nr .Lt) (λx y H Q=>∃i j,x=.str i/\y=.str j/\Q (.bl<|bd<|i.cps.toList<j.cps.toList) H):=by ext pins s σ H x y v u Q I d e h;let(i,j,rfl,rfl,q):=h;let(t,rfl):=d;let(t',rfl):=e;$(lt_str<|gh I q ρ)
def R8:aZ X (nr .In) (λx y H Q=>∃i j,x=.str i/\y=.str j/\Q (.bl<|!(z9 j i 0 j.length 1).isEmpty) H):=by ext pins s σ H x y v u Q I d e h;let(i,j,rfl,rfl,q):=h;let(t,rfl):=d;let(t',rfl):=e;$(in_str<|gh I q ρ)
def aZ.or (h:aZ X f r)(h':aZ X f e):aZ X f (λx y H Q=>r x y H Q\/e x y H Q):=by
 ext d s g H x y v u Q I i j q;let q||q:=q
 .$(h d s g H x y v u Q I i j q)
 $(h' d s g H x y v u Q I i j q)
def kN(b)(h:op≠.In:=by decide)(h2:op≠.NotIn:=by decide):xn op b=bn:=by
 let d:(op==CmpOp.In)=bn:=by simp!
 let e:(op==CmpOp.NotIn)=bn:=by simp!
 cases b<;>simp[xn,d,e]
def Ey (ho:aZ X (nr op) r)(e:PE X a ta)(f:PE X b tb)(hm:xn op b=bn):PE X (.Compare a [op] [b] pos) (qB r ta tb):=by$(λd s g H Q I h=>wpAny_Compare1 (AK e f I h λv u i x y j k l m q=>ho d i g j x y v u Q k l m q) hm)
def Bf(t:TE):TT:=λd H Q=>t d H λx e=>∃k,x=.bl k/\Q k e
def pf (ho:aZ X (nr op) r)(g:PE X a ta)(i:PE X b tb)(hm:xn op b=bn):PT X (.Compare a [op] [b] pos) (Bf<|qB r ta tb):=by
 ext d s f H Q I h;$(wpAny_isTrue_Compare1 (aI (g d s f H _ I h) λv j ⟨x,l,m,n,o⟩=>aI (i d j f l _ m o) λu p ⟨y,q,t,w,A⟩ =>
  aI (ho d p f q x y v u _ t n w A) λc s3 ⟨z,B,C,D,k,e,E⟩=>?_) hm)
 $$e;$$D;$(z5 ⟨B,C,E⟩)
def zu(r f:R2)(ta tb tc:TE):TE:=λd H Q=>ta d H λx g=>tb d g λy h=>r x y h λz e=>∃k,z=.bl k /\
 (if k=bi then tc d e λi j=>f y i j Q else Q (.bl false) e)
theorem TF (ho:aZ X (nr op) r)(l:aZ X (nr g) j)(q:PE X a ta)(t:PE X b tb)(w:PE X c tc)(hm:acP [op,g] [b,c]=bn:=by with_unfolding_all rfl):PE X (.Compare a [op,g] [b,c] pos) (zu r j ta tb tc):=by
 ext f s i H Q I h;$(Compare_chain (aI (q f s i H _ I h) λv A ⟨x,B,C,D,E⟩=>chain_link (aI (t f A i B _ C E) λu F ⟨y,G,J,m,K⟩ =>
  aI (ho f F i G x y v u _ J D m K) λd L ⟨z,n,o,M,k,e,p⟩=>?_)) hm)
 $$e;$$M;apply z5;cases k with
 |false=>$(ite_ff {.bl false,n,o,ρ,p})
 |true=>$(ite_tt<|chain_last (aI (w f L i n _ o p) λN O ⟨P,R,S,T,U⟩=>l f O i R y P u N Q S m T U))
theorem OI (ho:aZ X (nr op) r)(l:aZ X (nr g) j)(q:PE X a ta)(t:PE X b tb)(w:PE X c tc)(hm:acP [op,g] [b,c]=bn:=by with_unfolding_all rfl):PT X (.Compare a [op,g] [b,c] pos) (Bf<|zu r j ta tb tc):=by
 ext f s i H Q I h;$(isTrue_chain (aI (q f s i H _ I h) λv A ⟨x,B,C,D,E⟩=>test_link (aI (t f A i B _ C E) λu F ⟨y,G,J,m,K⟩ =>
  aI (ho f F i G x y v u _ J D m K) λd L ⟨z,n,o,M,k,e,p⟩=>?_)) hm)
 $$e;$$M;apply z5;cases k with
 |false=>let(k',N,O):=p;$$$N;$(ite_ff ⟨n,o,O⟩)
 |true=>$(ite_tt<|test_last (aI (w f L i n _ o p) λP R ⟨S,T,U,V,W⟩=>aI (l f R i T y S u P _ U m V W) λd' s5 ⟨z2,Y,Z,r5,k2,e2,q5⟩=>?_));$$e2;$$r5;$(z5 ⟨Y,Z,q5⟩)
def qD(K:f')(x:V)(H:Hp)(k:Bool):Prop :=
 match x with
 |.aG=>k=bn
 |.bl b=>k=b
 |.int i=>k=(i != 0)
 |.str y=>y.length<=c6/\k=((y.length:Int) != 0)
 |.j0 y=>y.size<=c6/\k=((y.size:Int) != 0)
 |.ref p=>(∃xs,cC K H p xs/\k=!xs.isEmpty)\/(∃xs,bf K H p xs/\k=!xs.isEmpty)\/∃kvs,H p=al (.dK kvs)/\k=!kvs.isEmpty
 |_=>False
def Uo (r:KV kvs vs):(!vs.isEmpty)=!kvs.isEmpty:=by
 $$$r<;>rfl
def G0 (r:aO xs its):(!its.toArray.isEmpty)=!xs.isEmpty:=by
 $$$r<;>simp
def mL:(c6:Nat)<2 ^ 63:=by rw[wm];decide
theorem wR:Vh X (λx H Q=>∃k,qD X.K x H k/\Q k H):=by
 ext pins s σ H x v Q I f h;let(k,e,q):=h;let hs:=wm;cases x with
 |aG=>$$f;let d:=e;$$d;$(truthy_none ⟨H,I,q⟩)
 |bl b=>$$f;let d:=e;$$d;$(z5 ⟨H,I,q⟩)
 |int i=>let(t,rfl):=f;let d:=e;$$d;$(PySem.P.truthy_int ⟨H,I,q⟩)
 |str y=>let(t,rfl):=f;obtain⟨n,d⟩:y.length<=c6/\k=((y.length:Int) != 0):=e;$$d;$(PySem.P.truthy_str ∅ {H,I.tok _,q})
 |j0 y=>let(t,rfl):=f;obtain⟨n,d⟩:y.size<=c6/\k=((y.size:Int) != 0):=e;$$d;$(W.truthy_bytes (by lia) {H,I.tok _,q})
 |ref p =>
  $$f;let d:=e;let(xs,g,d)||(xs,g,d)||(kvs,g,d):=d
  .$$d;let(its,r,l,hz):=I.list g;let j:=r.length;$(wpAny_truthy_list l.isList (by simp?[gs];$_) {H,I.tok _,by rw[G0 r];$q})
  .$$d;let(its,r,l,hz):=I.tuple g;let j:=r.length;$(truthy_tuple l (by simp?[gs];$_) {H,I.tok _,by rw[G0 r];$q})
  $$d;obtain⟨hz,o,vs,r,m⟩:kvs.length<=c6/\(p==NN)=bn/\∃vs,KV kvs vs/\s.heap.DictOf (cZ X.prog X.w) p vs:=I.ao p _ g;let j:=Paired.length r;$(wpAny_truthy_dict o m ∅ {H,I.tok _,by rw[Uo r];$q})
 |_=>$((e).elim)
def Lj(g:PE X a ta)(i:∀whole,aeE a X.env whole=(do let v <-whole;adX a.pos;aaB [v] (agq v))) :
  PT X a (λe H Q=>ta e H λx f=>∃k,qD X.K x f k/\Q k f):=by
 $(λd s e H Q I h=>isTrue_plain (aI (g d s e H _ I h) λv j ⟨x,l,m,n,o⟩=>wR d j e l x v Q m n o)<|i _)
def PR:aZ X (aar .Add) (λx y H Q=>∃i j,x=.str i/\y=.str j/\i.length+j.length<=c6/\Q (.str<|i++j) H):=by ext pins s σ H x y v u Q I d e h;let(i,j,rfl,rfl,hz,q):=h;let(t,rfl):=d;let(t',rfl):=e;$(add_str (λt' tk=>{.str<|i++j,H,I.tok _,⟨_,ρ⟩,q}) hz)
theorem vals1 (r:aO [x] us):∃u,us=[u]/\RelV x u:=by
 cases r with
 |cons d e=>$$$e;$({_,ρ,d})
theorem vals2 (r:aO [x,y] us):∃u d,us=[u,d]/\RelV x u/\RelV y d:=by
 cases r with
 |cons e f =>
  cases f with
  |cons g h=>$$$h;$({_,_,ρ,e,g})
def V9(e:X.calm=bi):bN X (.builtin "max") (λxs H Q=>∃i j,xs=[.int i,.int j]/\Q (.int (if j>i then j else i)) H):=by
 ext pins s σ H xs us Q I r h;let(i,j,rfl,q):=h;let(u,w',rfl,(t,rfl),(t',rfl)):=vals2 r;$(max_two_ints (I.ok.hd e) λh' tk k=>{_,H,I.kept k,?_,q});ext(d:j>i)
 .rw[if_pos d,if_pos d];$({_,ρ})
 rw[if_neg d,if_neg d];$({_,ρ})
def Sa(e:X.calm=bi):bN X (.builtin "min") (λxs H Q=>∃i j,xs=[.int i,.int j]/\Q (.int (if j<i then j else i)) H):=by
 ext pins s σ H xs us Q I r h;let(i,j,rfl,q):=h;let(u,w',rfl,(t,rfl),(t',rfl)):=vals2 r;$(min_two_ints (I.ok.hd e) λh' tk k=>{_,H,I.kept k,?_,q});ext(d:j<i)
 .rw[if_pos d,if_pos d];$({_,ρ})
 rw[if_neg d,if_neg d];$({_,ρ})
def Ov:bN X (.type "int") (λxs H Q=>(∃i,xs=[.int i]/\Q (.int i) H)\/∃k,xs=[.bl k]/\Q (.int (if k then 1 else 0)) H):=by
 ext pins s σ H xs us Q I r h;let(i,rfl,q)||(k,rfl,q):=h
 .let(u,rfl,t,rfl):=vals1 r;$(call_int_int {.int i,H,I,{_,ρ},q})
 let(u,rfl,d):=vals1 r;$$d;$(call_int_bool {.int (if k then 1 else 0),H,I.tok _,{_,ρ},q})
end
theorem kI.some_of (r:kI (al v) o):∃u,o=al u/\RelV v u:=by
 cases o with
 |none=>$((r).elim)
 |some u=>$(⟨u,ρ,r⟩)
structure cF (k:Nat) (A:ow):Prop where
 hd:A.handled=am
 dp:A.depth+3*k+5<recursionLimit
 un:A.units+16*k+200<u2
def cF.mono (r:cF k A)(h:j<=k):cF j A:={r.hd,by let:=r.dp;$_,by let:=r.un;$_}
def cF.deeper (r:cF (k+1) A)(env:Env):cF k (A.deeper env) :=
 {r.hd,by let:=r.dp;show A.depth+1+3*k+5<_;$_,by let:=r.un;show A.units+3+16*k+200<_;$_}
def cF.depth (r:cF k A):A.depth<recursionLimit:=by let:=r.dp;$_
def Tt:TA:=λ_ H Q=>Q [] H
def SQ(b:TE)(tr:TA):TA:=λa H Q=>b a H λx c=>tr a c λxs d=>Q (x::xs) d
section
variable{X:Cx}{e:hF}{es:List hF}{te:TE}{t:TA}{pos:u1}
def fF:PA X [] Tt:=λ_ _ _ _ H Q I h=>Calls.spliced_nil {[],H,I,.nil,h}
def bW(c:PE X e te)(d:PA X es t)(hs:bD X e es:=by rfl):PA X (e::es) (SQ te t):=by ext pos a s b H Q I h;rw[hs];$(Calls.spliced_cons (aI (c a s b H _ I h) λu f e=>?_));let(x,g,i,j,k):=e;$(aI (d pos a f b g _ i k) λus s2 ⟨xs,l,m,n,o⟩=>{x::xs,l,m,.cons j n,o})
def Ot(t:TA):TE:=λb H Q=>t b H λxs a=>xs.length<=c6/\∀p,a p=am->Q (.ref p) (upd a p<|.U xs)
def V4(t:TA):TE:=λb H Q=>t b H λxs a=>xs.length<=c6/\∀p,a p=am->Q (.ref p) (upd a p<|.L xs)
def pd{g}(h:PA X es t):PE X (.Tuple es g pos) (Ot t):=by$(λc s i H Q I j=>wpAny_Tuple_spliced (aI (h pos c s i H _ I j) λus a ⟨xs,d,f,r,z,q⟩=>{by rw[<-r.length];$z,?_}));$({.ref a.heap.objs.size,upd d a.heap.objs.size<|.U xs,f.laid (λb u e=>eu _ e) (eT _) ?_,ρ,q _<|f.ao.fresh<|eT _});$({z,us,r,{_,gi _ ρ,ρ,_,ρ}})
def Nc(h:PA X es t):PE X (.List es pos) (V4 t):=by$(λc s g H Q I i=>wpAny_List_spliced (aI (h pos c s g H _ I i) λus a ⟨xs,d,f,r,z,q⟩=>{by rw[<-r.length];$z,?_}));$({.ref a.heap.objs.size,upd d a.heap.objs.size<|.L xs,f.laid (λb u e=>eu _ e) (eT _) ?_,ρ,q _<|f.ao.fresh<|eT _});$({z,us,0,r,gi _ ρ})
end
abbrev Sp:=List V->Hp->VK->XK->Prop
abbrev jq:=List Env->Hp->cA->XK->cm->cA->Prop
structure vy (P:hZ) (w:nL) (K:f') (mg:eS->Option cm) (base:nk) (A:ow) (outer:List Env) (s:cA) (H:Hp):Prop where
 frames:A.frames=al outer
 mod:Mod K mg base
 bs:∀b o,base.get? b=al o->s.heap.get? b=al o/\H b=am
 jG:base.objs.size<=s.heap.objs.size
 ik:s.heap.FunFrames base outer
 lX:∀b∈dF outer,H b=am
 ao:cg P w H s.heap
 bare:acS s.gens
def CE(outer:List Env)(P:hZ)(w:nL)(H:Hp)(s:cA)(Q:VK)(u:cm)(s':cA):Prop :=
 ∃v a,s'.os=s.os/\acS s'.gens/\Un (dF outer) [] H a s.heap s'.heap/\cg P w a s'.heap/\RelV v u/\Q v a
def CR(CX:jq)(outer:List Env)(P:hZ)(w:nL)(H:Hp)(s:cA)(Q:VK)(E:XK)(r:adL)(s':cA):Prop :=
 match r with
 |.ok (.ret u)=>CE outer P w H s Q u s'
 |.ok _=>False
 |.error e=>CX outer H s E e s'
structure aV (P:hZ) (w:nL) (K:f') (mg:eS->Option cm) (base:nk) (CX:jq) (k:Nat) (f:dn) (fd:hO) (ps:List eS) (sp:Sp):Prop where
 len:∀vs H Q E,sp vs H Q E->vs.length=ps.length
 run:∀(A:ow) (outer:List Env) (s:cA) (H:Hp) (args:Args) (us:List cm) (vs:List V) (Q:VK) (E:XK),cF k A->vy P w K mg base A outer s H->afC s fd args (ps.zip us)->aO vs us->sp vs H Q E ->
  abu (hM P w) A (.call (.ref f) args) (CR CX outer P w H s Q E) s
def aV.imp{P:hZ}{w:nL}{K:f'}{mg:eS->Option cm}{base:nk}{CX:jq}{k:Nat}{f:dn}{b:hO}{c:List eS}{sp a:Sp}(F:aV P w K mg base CX k f b c sp)
 (h:∀vs H Q E,a vs H Q E->sp vs H Q E):aV P w K mg base CX k f b c a :=
 {λvs H Q E q=>F.len vs H Q E<|h _ _ _ _ q,λA outer s H args us vs Q E d e g i hs=>F.run A outer s H args us vs Q E d e g i<|h _ _ _ _ hs}
section
variable{X:Cx}{pins:List (dn×zI)}{σ:St}{H:Hp}{s s':cA}
def Inv.E3(I:Inv X pins σ H s):vy X.prog X.w X.K X.mg X.base X.A X.stack s H :=
 {I.ok.frames,I.ok.mod,I.bs,n5 I.ok.jG I.sz,I.stack,I.A5,I.ao,I.bare}
def Inv.after (I:Inv X pins σ H s)(h:CE X.stack X.prog X.w H s Q u s'):EP X pins σ Q u s':=by let(v,c,os,bare,un,ao,r,q):=h;let(hh,g,d,t,a):=s';obtain rfl:a=s.os:=os;$({v,c,I.call un ao bare (λb z=>absurd z ⋯),r,q})
end
def RG(sp:Sp)(a:List V)(E:XK)(t:TA):TE:=λb H Q=>t b H λvs c=>sp (vs++a) c Q E
def Binds(K:f')(b:hO)(a:List eS)(ds:List cm):Prop :=
 ∀(s:cA) (us:List cm),K.In s.heap->(us++ds).length=a.length->afC s b {us,[]} (a.zip<|us++ds)
def Binds.all{K:f'}{b:hO}{a:List eS}(h:∀us:List cm,us.length=a.length->aeF b {us,[]}=pure (a.zip us)):Binds K b a []:=λs us _ hl=>by rw[nS]at hl ⊢;$(.of_eq<|h us hl)
def vQ(CX:jq)(X:Cx)(E:XK):Prop:=∀(a:List (dn×zI)) (b:St) (H:Hp) (s:cA) (e:cm) (s':cA),Inv X a b H s->CX X.stack H s E e s'->X.xe e s'
section
variable{X:Cx}{CX:jq}{k:Nat}{f C:dn}{fd:hO}{ps:List eS}{sp:Sp}{dvs:List V}{ds:List cm}{E:XK}{x m:eS}{p pos apos:u1}{e o:hF}{es:List hF}{ta:TE}{t:TA}
theorem TM (F:aV X.prog X.w X.K X.mg X.base CX k f fd ps sp)(g:cF k X.A)(i:Binds X.K fd ps ds)(hd:aO dvs ds)(j:vQ CX X E)(I:Inv X a c H s)(r:aO vs us)(h:sp (vs++dvs) H Q E):gj (hM X.prog X.w) X.A (call (.ref f) us) (EP X a c Q) X.xe s:=by
 let d:=r.append hd;let hl:(us++ds).length=ps.length:=by rw[<-d.length];$(F.len _ _ _ _ h)
 $(agn (aaC (F.run X.A X.stack s H {us,[]} (us++ds) (vs++dvs) Q E g I.E3 (i s us I.fY hl) d h) λr s' b=>?_));cases r with
 |error e=>$(j a c H s e s' I b)
 |ok fl =>
  cases fl with
  |ret u=>$(I.after b)
  |next=>$(KX b)
  |brk=>$(KX b)
  |cont=>$(KX b)
def Ag(F:aV X.prog X.w X.K X.mg X.base CX k f fd ps sp)(g:cF k X.A)(i:Gl X x)(hm:X.mg x=al (.ref f))(j:acF X.K (.ref f)=bi)(l:Binds X.K fd ps ds)(hd:aO dvs ds)(n:vQ CX X E)
 (u:PA X (e::es) t)(b:bz x:=by decide)(v:bD X e es:=by rfl)(c:(T' pos<|km es X.env).any (·.1)=bn:=by rfl) :
  PE X (.Call (.Name x p) (e::es) [] pos) (RG sp dvs E t):=by
 $(λa s y H Q I h=>ack<|rR I i hm ?_ b);$(ah2 I.ok.mod.ur j (aI (u pos a s y H _ I h) λus s1 ⟨vs,H1,d,r,q⟩=>{d.fY,?_}) v c);$(TM F g l hd n d r q)
end
structure br (N P:List eS) (sc:aah):Prop where
 kind:sc.kind=.function
 co:sc.isCoroutine=bn
 gen:sc.isGenerator=bn
 nd:N.Nodup
 pre:N.take P.length=P
 par:∀x∈P,sc.names.lookup x=some .local\/sc.names.lookup x=some .cell
 Ma:∀y∈sc.names,y.2≠.free
theorem Ek{ab3:eS->Option ade}:∀{binds:List (eS×cm)}{m:eS->Option cm},(∀v,(x,v)∉binds)->afi ab3 binds m x=m x
 |[],_,_=>rfl
 | (n,v)::r,m,h=>by
  dsimp[afi];rw[Ek λw hw=>h w<|fk _ hw];split
  .let:x≠n:=by ext rfl;$(h v fm)
   simp[this]
  rfl
theorem IH{ab3:eS->Option ade}:∀{binds:List (eS×cm)}{m:eS->Option cm},(∀v,(x,v)∉binds)->afj ab3 binds m x=m x
 |[],_,_=>rfl
 | (n,v)::r,m,h=>by
  dsimp[afj];rw[IH λw hw=>h w<|fk _ hw];split
  .rfl
  let:x≠n:=by ext rfl;$(h v fm)
  simp[this]
theorem Dv{ab3:eS->Option ade}:∀{P:List eS}{vs:List cm}{i:Nat}{m:eS->Option cm},P.Nodup->P[i]?=al x->vs[i]?=al v->ab3 x=some .local ->
  afi ab3 (P.zip vs) m x=al v
 |[],_,_,_,_,h,_,_=>by simp at h
 |_::_,[],_,_,_,_,h,_=>by simp at h
 |p::P,w::vs,0,m,nd,a,b,c=>by simp at a b;$$a;$$b;show afi ab3 ((p,w)::P.zip vs) m p=_;dsimp[afi];rw[Ek λv d=>(qo.1 nd).1 (adU d).1,if_pos c];simp
 |p::P,w::vs,i+1,m,nd,a,b,c=>by$$(afi);$(Dv (qo.1 nd).2 (a) (b) c)
theorem Fw{ab3:eS->Option ade}:∀{P:List eS}{vs:List cm}{i:Nat}{m:eS->Option cm},P.Nodup->P[i]?=al x->vs[i]?=al v->ab3 x≠some .local ->
  afj ab3 (P.zip vs) m x=al v
 |[],_,_,_,_,h,_,_=>by simp at h
 |_::_,[],_,_,_,_,h,_=>by simp at h
 |p::P,w::vs,0,m,nd,a,b,c=>by simp at a b;$$a;$$b;show afj ab3 ((p,w)::P.zip vs) m p=_;dsimp[afj];rw[IH λv d=>(qo.1 nd).1 (adU d).1,if_neg c];simp
 |p::P,w::vs,i+1,m,nd,a,b,c=>by$$(afj);$(Fw (qo.1 nd).2 (a) (b) c)
def start(N:List eS)(vs:List V):St:=vs.map al++nE (N.length-vs.length) am
def eV(CX:jq)(P:hZ)(w:nL)(K:f')(mg:eS->Option cm)(base:nk)(N:List eS)(a:eS)(scope:aah)(f:dn)(cd:cm)(A:ow)(outer:List Env)(s:cA)(H:Hp)(E:XK):Cx where
 prog:=P
 w:=w
 K:=K
 mg:=mg
 base:=base
 A:=A.deeper<|abw a scope s.heap.objs.size f cd
 N:=N
 dj:=s
 uY:=H
 env:=abw a scope s.heap.objs.size f cd
 outer:=outer
 stack:=abw a scope s.heap.objs.size f cd::outer
 ex:=[]
 calm:=true
 fn:=λ_=>true
 pn:=[]
 xe:=λe s'=>gj (hM P w) (A.deeper<|abw a scope s.heap.objs.size f cd) (leaving (abw a scope s.heap.objs.size f cd) e) (λ_ b=>CX outer H s E e b) (λc b=>CX outer H s E c b) s'
def Dx{a:aah}{n:Nat}{x:eS}(h:a.names.lookup x=some .cell):∃c,(ag9 n a.names []).lookup x=al c:=by$(W0.1<|agw a.names n []<|ι h)
def Nw{CX:jq}{P:hZ}{w:nL}{K:f'}{mg:eS->Option cm}{base:nk}{N g:List eS}{d:eS}{scope:aah}{f:dn}{cd:cm}{A:ow}{outer:List Env}{s C:cA}{H:Hp}{E:XK}{us:List cm}{vs:List V}
 (S:br N g scope)(hd:A.handled=am)(a:vy P w K mg base A outer s H)(hl:vs.length=g.length)(r:aO vs us)
 (x:InCallC s s.heap.objs.size (afi (abw d scope s.heap.objs.size f cd).kindOf (g.zip us) λ_=>am) (ag9 (s.heap.objs.size+1) scope.names []) (afj (abw d scope s.heap.objs.size f cd).kindOf (g.zip us) λ_=>am) C) :
  Inv (eV CX P w K mg base N d scope f cd A outer s H E) [] (start N vs) H C:=by
 let hpl:g.length<=N.length:=by let:=congrArg List.length S.pre;grind
 let(o,tk,rfl,D):=x.done;let l:∀b:dn,b∉(eV CX P w K mg base N d scope f cd A outer s H E).ex:=λb z=>absurd (show b∈([]:List dn)from z) ⋯
 $(⟨{a.mod,S.kind,ρ,ρ,eT _,λy z c o B=>?_,λy j=>?_,λy c _ h=>?_,λ_=>hd,Around.frames_deeper a.frames,τ ⟨ρ,ρ⟩,λb z=>absurd z<|l b,a.bs,a.jG,λb _ _=>l b,λb z=>absurd z<|l b,a.ik,a.lX},
  ρ,a.bare,Un.kept D,{_,x.toInCall.ns,λi y v o B h3=>?_},λy c h=>{_,x.cell y c h},a.ao.fresh<|eT _,λy c h=>?_,λp m=>absurd (show p∈([]:List (dn×zI))from m) ⋯,a.ao.kept D,?_⟩)
 .$(name_of_addr x.apart (aaR o)<|aaR B)
 .let j:=j;let j||j:=j
  .$(Dx j)
  $(absurd ρ<|S.Ma _<|aaR j)
 .$(aaV<|x.above y c<|aaR h)
 .let F:i<vs.length:=by
   unfold start at B;ext(F:i<vs.length)
   .$F
   simp![kq,acu]
  let I:vs[i]?=al v:=by simp![start,kH]
  let(u,G,J):=r.get I;let m:g[i]?=al y:=by rwa[<-S.pre,aeq ∅]
  let t:g.Nodup:=by rw[<-S.pre];$(S.nd.sublist<|abd _ _)
  $({u,J,?_});let k||k:=S.par y (eH m)
  .$(ι {k,Dv t m G k})
  let(c,e):=Dx k;$(τ {ι k,c,e,?_});let q:=x.cell y c e;rw[Fw t m G (by show scope.names.lookup y≠_;rw[k];decide)]at q;$q
 .$(a.ao.fresh<|aaV<|x.above y c<|aaR h)
 $$(start);show _=N.length;simp!
theorem GX{CX:jq}{P:hZ}{w:nL}{K:f'}{mg:eS->Option cm}{base:nk}{k:Nat}{f:dn}{name a:eS}{d:Arguments}{body:List aas}{scope:aah}{F kV p pm c ct U:cm}{G X:Option dn}
 {L:Array (Option cm)}{N j:List eS}{sp:Sp}(lk:K.lookup f=al {U,X,.func<|adu name a d body scope F kV p pm G c ct,L})(M:ahd K c a=bi)(S:br N j scope)
 (len:∀vs H Q E,sp vs H Q E->vs.length=j.length)
 (l:∀(A:ow) (outer:List Env) (s:cA) (H:Hp) (vs:List V) (Q:VK) (E:XK),cF k (A.deeper<|abw a scope s.heap.objs.size f c)->sp vs H Q E ->
   ∃t,gu (eV CX P w K mg base N a scope f c A outer s H E) body t/\t {nx:=λ_ g=>Q .aG g,rt:=Q} (start N vs) H) :
  aV P w K mg base CX (k+1) f (adu name a d body scope F kV p pm G c ct) j sp:=by
 $({len,λA outer s H args us vs Q E C i Y r z=>?_});let hl:=len _ _ _ _ z;let O:=i.mod.ur.keeps λb o e=>(i.bs b o e).1;let R:=i.mod.nolimit.keeps λb o e=>(i.bs b o e).1;let m:∀y∈j.zip us,scope.names.lookup y.1=some .local\/(scope.names.lookup y.1=some .cell/\((ag9 (s.heap.objs.size+1) scope.names []).lookup y.1).isSome=bi):=λ⟨n,v⟩ Z=>by
  let q||q:=S.par n (adU Z).1
  .$(ι q)
  $(τ {q,agw _ _ _<|ι q})
 $(codeAny_call_function C.depth (O _ _ lk) ρ S.co S.gen ρ (W.codeRec_of O M)<|Y _ _ _ _ ?_);$(wpAny_newFunctionEnv_cells S.kind m λenv he T x=>?_);$$he;$({R.keeps x.toInCall.keep,codeAny_func ?_});let(t,ht,hq):=l A outer s H vs Q E (C.deeper _) z;let I:Inv (eV CX P w K mg base N a scope f c A outer s H E) [] (start N vs) H T:=Nw S C.hd i hl r x;$(z6 (ht [] T (start N vs) H _ I hq) (λfl s' hs=>?_) λe s' hs=>hs);let B:∀{h:St}{g:Hp}{v:V}{u:cm},Inv (eV CX P w K mg base N a scope f c A outer s H E) [] h g s'->RelV v u->Q v g->CE outer P w H s Q u s' :=
  λ{h g v u} J D q=>⟨v,g,J.os,J.bare,J.base,J.ao,D,q⟩
 cases fl with
 |ret u=>let(v,h,g,J,D,q):=hs;$(B J D q)
 |next=>let(h,g,J,q):=hs;$(B (v:=V.aG) J ρ q)
 |brk=>let(_,_,_,q):=hs;$(KX q)
 |cont=>let(_,_,_,q):=hs;$(KX q)
section
variable{X:Cx}{x:eS}{p pos:u1}{e:hF}{es:List hF}{t:TA}{id T:String}{r:List V->Hp->VK->Prop}
def Cy(r:List V->Hp->VK->Prop)(t:TA):TE:=λa H Q=>t a H λvs b=>r vs b Q
def kD(f:bN X (.builtin id) r)(g:Gl X x)(hm:X.mg x=am)(i:ZH x=al (.builtin id))(j:PA X (e::es) t)(k:x≠"__name__":=by decide)(b:bz x:=by decide)
 (l:bD X e es:=by rfl)(c:(T' pos<|km es X.env).any (·.1)=bn:=by rfl):PE X (.Call (.Name x p) (e::es) [] pos) (Cy r t):=by
 $(λa s d H Q I h=>ack<|oC I g hm i ?_ k b);$(ahK (aI (j pos a s d H _ I h) λus m ⟨vs,n,o,q,u⟩=>f a m d n vs us Q o q u) l c)
def wH(f:bN X (.type T) r)(g:Gl X x)(hm:X.mg x=am)(i:ZH x=al (.type T))(j:PA X (e::es) t)(k:x≠"__name__":=by decide)(b:bz x:=by decide)
 (l:bD X e es:=by rfl)(c:(T' pos<|km es X.env).any (·.1)=bn:=by rfl):PE X (.Call (.Name x p) (e::es) [] pos) (Cy r t):=by
 $(λa s d H Q I h=>ack<|oC I g hm i ?_ k b);$(HT (aI (j pos a s d H _ I h) λus m ⟨vs,n,o,q,u⟩=>f a m d n vs us Q o q u) l c)
end
section
open PySem.SeqAt
open PySem.AutoSeq1 (wpAny_loadPart')
open PySem.MeetsSeq PySem.MeetsSeq2 PySem.MeetsSeq3
end
section
variable{prog:hZ}{w:nL}{A:ow}{E:cm->cA->Prop}{s:cA}{X:Cx}{e:hF}{te:TE}{lo hi:Option hF}{tl th:TO}{pos p2:u1}
def Ry (l:abx s.heap t vs.toArray)(m:abx s.heap b a.toArray)(i:vs≠[])(o:a=[]->Q (.ref t) s)(p:a≠[]->Q (.ref s.heap.objs.size) {s with heap:=s.heap.push {cls:=.type "tuple",data:=.seq (vs++a).toArray} })(hsz:vs.length+a.length<=c6):gj (hM prog w) A (aar .Add (.ref t)<|.ref b) Q E s:=by
 let((cls,dd,data,sl),ho,j,n,hd):=id l;let((cls2,d,data2,f),c,g,k,h):=id m;simp? at j hd g h;subst j hd g h;let e:vs.toArray++a.toArray=(vs++a).toArray:=⋯;ext(hw:a=[])
 .$(afu {_,ho,ρ} {_,c,ρ} ag6 aib ael aeb (ad5 _ _)
   (tuple_addW1 t b vs.toArray a.toArray n k dd d sl f (by$$$$i) (by simp[hw])) {ho,c,o hw})
 $(afu {_,ho,ρ} {_,c,ρ} ag6 aib ael aeb (ad5 _ _)
  (tuple_addW2 t b vs.toArray a.toArray n k dd d sl f (by$$$$i) (by$$$$hw) ∅) {ho,c,?_})
 rw[e];$(p hw)
def bu(n d:Nat):Option Int->Nat
 |none=>d
 |some v=>if v<0 then(v+(n:Int)).toNat else min v.toNat n
def Dc(n d):bu n d am=d:=ρ
def xQ(n d k:Nat):bu n d (al (k:Int))=min k n:=by rfl
theorem TB(n d)(hd:d<=n)(o):bu n d o<=n:=by
 cases o with
 |none=>$hd
 |some v=>show(if v<0 then(v+(n:Int)).toNat else min v.toNat n)<=n;ext(a:v<0);lia;rw[if_neg a];$(aga _ _)
def Ic(v:Int)(n d:Nat):(if v<0 then max (v+(n:Int)) 0 else min v (n:Int))=((bu n d (al v):Nat):Int):=by show(if v<0 then max (v+(n:Int)) 0 else min v (n:Int))=(((if v<0 then(v+(n:Int)).toNat else min v.toNat n):Nat):Int);grind
theorem Ra(lo hi:Option Int)(n:Nat):abv lo hi 1 (n:Int)=(((bu n 0 lo:Nat):Int),((bu n n hi:Nat):Int)):=by
 apply aik
 .cases lo with
  |none=>rfl
  |some v=>$(Ic v n 0)
 cases hi with
 |none=>rfl
 |some v=>$(Ic v n n)
def LI(i j:Nat):aav (i:Int) (j:Int) 1=j-i:=by delta aav;grind
theorem FF (p:aek v o)(h:Q o s):gj (hM prog w) A (ahl v) Q E s:=by
 cases p with
 |none=>$(ah7 h)
 |int i t=>$(slicePart_int h)
def UR{sl:dn}{c d:cm}{lo hi:Option Int}{n:Nat}{Q:Int×Int×Nat->cA->Prop}(hs:s.heap.IsSliceOf sl c d .none)(f:aek c lo)(g:aek d hi)
 (h:Q (((bu n 0 lo:Nat):Int),1,bu n n hi-bu n 0 lo) s):gj (hM prog w) A (acX (.ref sl)<|pure (n:Int)) Q E s:=by
 let(os,a,hcs,b):=id hs;$(bg<|bg<|afZ a b (x:=c) ρ<|bg<|afZ a b (x:=d) ρ<|bg<|afZ a b ρ<|dr ?_);$(bg<|ah7 ?_);show gj _ _ (if((1:Int)==0)=bi then _ else _) _ _ s;$(bg<|FF f<|bg<|FF g<|bg<|dr ?_);show gj _ _ (match abv lo hi 1 (n:Int)with|(lo,hi)=>pure (lo,(1:Int),aav lo hi 1)) _ _ s;rw[Ra lo hi n];show gj _ _ (pure (((bu n 0 lo:Nat):Int),(1:Int),aav ((bu n 0 lo:Nat):Int) ((bu n n hi:Nat):Int) 1)) _ _ s;rw[LI];$(dr h)
def U8(xs:Array cm)(i k:Nat):((hE k).filterMap λ(m:Nat)=>xs[((i:Int)+(m:Int)*1).toNat]?).toArray=((xs.toList.drop i).take k).toArray:=by
 let e:(λ(m:Nat)=>xs[((i:Int)+(m:Int)*1).toNat]?)=λm=>xs[i+m]?:=by
  funext m;let:((i:Int)+(m:Int)*1).toNat=i+m:=∅
  rw[this]
 rw[e];let:=pick_run xs i k;let a:((λx=>xs[x]?) ∘ λx=>i+x)=λm=>xs[i+m]?:=ρ;simp!
theorem QT{t sl:dn}{items:Array cm}{c d:cm}{lo hi:Option Int}{Q:cm->cA->Prop}(b:abx s.heap t items)(hs:s.heap.IsSliceOf sl c d .none)(k:aek c lo)(l:aek d hi)
 (hw:¬(bu items.size 0 lo=0/\bu items.size items.size hi=items.size))
 (h:Q (.ref s.heap.objs.size) {s with heap:=s.heap.push {cls:=.type "tuple",data:=.seq ((items.toList.drop<|bu items.size 0 lo).take (bu items.size items.size hi-bu items.size 0 lo)).toArray} })
 (hsz:items.size<=c6):gj (hM prog w) A (adj (.ref t)<|.ref sl) Q E s:=by
 let a:sizeOk (.seq ((items.toList.drop<|bu items.size 0 lo).take (bu items.size items.size hi-bu items.size 0 lo)).toArray):=by show((items.toList.drop<|bu items.size 0 lo).take (bu items.size items.size hi-bu items.size 0 lo)).toArray.size<=c6;simp;$_
 let(os,f,g,hds):=id hs;let i:s.TypeIs (.ref sl) "slice":=⟨os,f,g⟩;$$(adj);try with_reducible $(pl ?_)
 first|$(bg (dr ?_))|skip
 $(bg<|wpAny_sequenceKey b.typeIs ⋯ ?_)
 $(bg (L1 b.typeIs aaj
  (se aaj b.typeIs entry_tuple_getitem ?_<|args_tuple_getitem _ _)))
 show gj _ _ (ahk (.ref t) >>= _) _ _ s;$(bg<|tupleItemsOf_ b ?_);$(bg<|ab8 i ?_);rw[if_pos ⋯];$(bg<|UR hs k l ?_);let j:¬((((bu items.size 0 lo:Nat):Int)==0&&(1:Int)==1&&(bu items.size items.size hi-bu items.size 0 lo)==items.size)=bi):=by simp!
 show gj _ _ (if(((bu items.size 0 lo:Nat):Int)==0&&(1:Int)==1&&(bu items.size items.size hi-bu items.size 0 lo)==items.size)=bi then _ else _) _ _ s;rw[if_neg j,U8]
 first
  |$(bg (rp (dr ⟨_,ρ,dr h⟩) a))
  |$(bg (rp (bg<|dr<|dr ⟨_,ρ,dr h⟩) a))
  |$(bg (bg<|rp (dr<|dr ⟨_,ρ,dr h⟩) a))
  |$(bg<|bg<|rp (dr ⟨_,ρ,dr h⟩) a)
abbrev TO:=St->Hp->(Option Int->Hp->Prop)->Prop
def PO(X:Cx)(e:Option hF)(t:TO):Prop :=
 ∀(a:List (dn×zI)) (s:cA) (b:St) (H:Hp) (Q:Option Int->Hp->Prop),Inv X a b H s->t b H Q ->
  gj (hM X.prog X.w) X.A (evalPart e X.env) (λu s'=>∃o c,Inv X a b c s'/\aek u o/\Q o c) X.xe s
def QL:TO:=λ_ H Q=>Q am H
def Wt(t:TE):TO:=λa H Q=>t a H λx b=>∃i,x=.int i/\Q (al i) b
def Sn:PO X am QL:=by$(λpins s σ H Q I h=>dr {am,H,I,.none,h})
def Oj(h:PE X e te):PO X (al e) (Wt te):=by$(λa s b H Q I hw=>aI (h a s b H _ I hw) λu s1 e=>?_);let(x,c,d,f,g):=e;let(i,rfl,q):=g;let(t,rfl):=f;$({al i,c,d,.int i t,q})
def ng(X:Cx)(r:V->Option Int->Option Int->Hp->VK->Prop):Prop :=
 ∀(a:List (dn×zI)) (s:cA) (b:St) (H:Hp) (x:V) (v c d:cm) (lo hi:Option Int) (sl:dn) (Q:VK),Inv X a b H s->RelV x v->s.heap.IsSliceOf sl c d .none->aek c lo->aek d hi->r x lo hi H Q ->
  ∃T id,acm (.type T) "__getitem__"=pure (al<|.builtin id)/\s.TypeIs v T/\gj (hM X.prog X.w) X.A (adj v<|.ref sl) (EP X a b Q) X.xe s
def ng.or (h:ng X r)(h':ng X b):ng X (λx lo hi H Q=>r x lo hi H Q\/b x lo hi H Q):=by
 ext a s c H x v d f lo hi sl Q I g hs i j q;let q||q:=q
 .$(h a s c H x v d f lo hi sl Q I g hs i j q)
 $(h' a s c H x v d f lo hi sl Q I g hs i j q)
def Q7(r:V->Option Int->Option Int->Hp->VK->Prop)(te:TE)(tl th:TO):TE:=λa H Q=>te a H λx b=>tl a b λl c=>th a c λu d=>r x l u d Q
def VJ (j:ng X r)(k:PE X e te)(hl:PO X lo tl)(m:PO X hi th):PE X (.Subscript e (.Slice lo hi am p2) pos) (Q7 r te tl th):=by$(λa s d H Q I h=>aeM (aI (k a s d H _ I h) λv n g=>?_));let(x,o,p,t,y):=g;$(wpAny_Slice (aI (hl a n d o _ p y) λf z ⟨l,B,C,D,F⟩=>aI (m a z d B _ C F) λg c h=>?_));let(u,i,G,J,K):=h;apply dr;let L:Inv X a d i {c with heap:=c.heap.push {cls:=.type "slice",data:=.fields #[f,g,.none]} }:=G.kept (t':=c.toks) λb ob q=>eu _ q;let(T,id,M,N,O):=j a {c with heap:=c.heap.push {cls:=.type "slice",data:=.fields #[f,g,.none]} } d i x v f g l u c.heap.objs.size Q L t (adP ..) D J K;$(ah5 N M O (by with_unfolding_all rfl))
def jC(xs:List V)(lo hi:Option Int):List V:=(xs.drop<|bu xs.length 0 lo).take (bu xs.length xs.length hi-bu xs.length 0 lo)
def C3(xs)(lo hi):(jC xs lo hi).length<=xs.length:=by delta jC;rw[iW,tm];lia
def OM(K:f'):V->Option Int->Option Int->Hp->VK->Prop:=λx lo hi H Q=>∃a xs,x=.ref a/\bf K H a xs /\
 ¬(bu xs.length 0 lo=0/\bu xs.length xs.length hi=xs.length)/\∀p,H p=am->Q (.ref p) (upd H p<|.U<|jC xs lo hi)
def O8:ng X (OM X.K):=by
 ext pins s σ H x v vl vu lo hi sl Q I f hs g i h;let(a,xs,rfl,j,hw,q):=h;$$f;let(its,r,d,hz):=I.tuple j;let c:its.toArray.size=xs.length:=by rw[gs];$r.length.symm
 $({"tuple",_,aaj.lookup,d.typeIs,?_});$(QT d hs g i (by rw[c];$hw) ?_ (by rw[c];$hz));rw[c];$({.ref s.heap.objs.size,_,I.laid (λb ob q=>eu _ q) (eT _) ?_,ρ,q _<|I.ao.fresh<|eT _});$({n5 (C3 xs lo hi) hz,_,(r.drop<|bu xs.length 0 lo).take (bu xs.length xs.length hi-bu xs.length 0 lo),afI _ _})
def Ed(K:f'):R2:=λx y H Q=>∃a b xs ys,x=.ref a/\y=.ref b/\bf K H a xs/\bf K H b ys/\xs≠[]/\xs.length+ys.length<=c6 /\
 (ys=[]->Q (.ref a) H)/\(ys≠[]->∀p,H p=am->Q (.ref p) (upd H p<|.U<|xs++ys))
theorem aO.yp (r:aO xs us):us=[]↔xs=[]:=by
 cases r with
 |nil=>simp
 |cons _ _=>simp
def KI:aZ X (aar .Add) (Ed X.K):=by ext pins s σ H x y v u Q I f g h;let(a,b,xs,ys,rfl,rfl,i,j,k,hz,l,m):=h;$$f;$$g;let(its,d,n,_):=I.tuple i;let(its2,c,p2,_):=I.tuple j;$(Ry n p2 (λz=>k<|d.yp.1 z) (λz=>{.ref a,H,I,ρ,l<|c.yp.1 z}) (λz=>?_) (by rw[<-d.length,<-c.length];$hz));$({.ref s.heap.objs.size,_,I.laid (λb ob q=>eu _ q) (eT _) ?_,ρ,m (λw=>z<|c.yp.2 w) _<|I.ao.fresh<|eT _});$({by rw[eR];$hz,_,d.append c,afI _ _})
end
def iC(n:Nat)(i:Int):Option Nat:=if 0<=i then(if i<n then al i.toNat else am)else if -(n:Int)<=i then al (i+n).toNat else am
def gb (xs:List a)(i:Int):Option a:=(iC xs.length i).bind λj=>xs[j]?
def FG (h:iC n i=al j):seqIndex? i n=al j/\j<n/\-(n:Int)<=i/\i<n:=by
 delta iC at h;ext(h0:0<=i)
 .rw[if_pos h0]at h;ext(a:i<n)
  .rw[if_pos a]at h;let e:=Option.some.inj h;$({by rw[af0 h0 a,e],∅,∅,a})
  rw[if_neg a]at h;$(nO h)
 rw[if_neg h0]at h;ext(a:-(n:Int)<=i)
 .rw[if_pos a]at h;let e:=Option.some.inj h;$({by rw[afr ∅ a,e],∅,a,∅})
 rw[if_neg a]at h;$(nO h)
theorem Cw{a:Type}{xs:List a}{i:Int}{v:a}(h:gb xs i=al v):∃j,seqIndex? i xs.length=al j/\xs[j]?=al v/\j<xs.length/\-(xs.length:Int)<=i/\i<xs.length:=by
 delta gb at h;cases e:iC xs.length i with
 |none=>rw[e]at h;$(nO h)
 |some j=>rw[e]at h;let(b,c,d,f):=FG e;$(⟨j,b,h,c,d,f⟩)
def nh{a:Type}{xs:List a}{j:Nat}{v:a}(h:xs[j]?=al v):gb xs (j:Int)=al v:=by let hj:=(cn.1 h).1;simp![iC,gb]
def pY(b:hF):Prop:=∀o i,aen b false o i=operate [o,i] (adj o i)
def l6(X:Cx)(r:R2):Prop :=
 ∀(value slice:hF) (a:List (dn×zI)) (s:cA) (b:St) (H:Hp) (x y:V) (v u:cm) (Q:VK),Inv X a b H s->RelV x v->RelV y u->r x y H Q ->
  aen slice false v u=operate [v,u] (adj v u)->gj (hM X.prog X.w) X.A (ae' value slice v u) (EP X a b Q) X.xe s
def uk(X:Cx)(id:String)(r:V->List V->Hp->VK->Prop):Prop :=
 ∀(a:List (dn×zI)) (s:cA) (b:St) (H:Hp) (x:V) (xs:List V) (v:cm) (us:List cm) (Q:VK),Inv X a b H s->RelV x v->aO xs us->r x xs H Q ->
  gj (hM X.prog X.w) X.A (call (.builtin id) (v::us)) (EP X a b Q) X.xe s
section
variable{X:Cx}{a b:hF}{ta tb:TE}{pos:u1}
def l6.or (h:l6 X r)(h':l6 X d):l6 X (λx y H Q=>r x y H Q\/d x y H Q):=by
 ext value slice c s e H x y v u Q I f g q hs;let q||q:=q
 .$(h value slice c s e H x y v u Q I f g q hs)
 $(h' value slice c s e H x y v u Q I f g q hs)
def Fe (d:l6 X r)(e:PE X a ta)(f:PE X b tb)(hs:pY b):PE X (.Subscript a b pos) (qB r ta tb):=by$(λc s g H Q I h=>aeM (AK e f I h λv u i x y j k l m q=>d a b c i g j x y v u Q k l m q<|hs _ _))
def GC(K:f'):R2:=λx y H Q=>∃p xs i v,x=.ref p/\y=.int i/\cC K H p xs/\gb xs i=al v/\Q v H
def JL(K:f'):R2:=λx y H Q=>∃p xs i v,x=.ref p/\y=.int i/\bf K H p xs/\gb xs i=al v/\Q v H
def Ko:R2:=λx y H Q=>∃z i c,x=.str z/\y=.int i/\z.length<=c6/\gb z.cps.toList i=al c/\Q (.str ⟨#[c]⟩) H
def XB:l6 X (GC X.K):=by
 ext value slice c s k H x y v u Q I n o h hs;let(p,xs,i,z,rfl,rfl,A,B,q):=h;$$n;let(t,rfl):=o;let(its,r,f,hz):=I.list A;let(j,d,C,h3,D,E):=Cw B;let(w,l,m):=r.get C;let hl:=r.length;let hn:=mL;let e:EP X c k Q w s:=⟨z,H,I,m,q⟩;ext(h0:0<=i)
 .let g:i.toNat=j:=by rw[af0 h0 E]at d;$(Option.some.inj d)
  $(item_listR f.isList h0 ∅ (by rw[g];$$$$l) e hs)
 let g:(i+(its.toArray.size:Int)).toNat=j:=by rw[afr ⋯ D]at d;rw[gs,<-hl];$(Option.some.inj d)
 $(afD f.isList.typeIs adY.lookup
  (wpAny_getItem_list_neg f.isList ⋯ (by rw[gs]<;>$_) (by lia) (by rw[g];$$$$l) ⟨ρ,e⟩) hs)
def XT:l6 X (JL X.K):=by
 ext value slice c s d H x y v u Q I k l h hs;let(p,xs,i,z,rfl,rfl,m,n,q):=h;$$k;let(t,rfl):=l;let(its,r,e,hz):=I.tuple m;let(j,o,A,h3,h4,h5):=Cw n;let(w,B,f):=r.get A;let hl:=r.length;let hn:=mL;let g:EP X c d Q w s:=⟨z,H,I,f,q⟩;$(afD e.typeIs aaj.lookup
  (getItem_tuple e (by lia) (by lia) (by rw[gs,<-hl];$o) (by$$$$B) ⟨ρ,g⟩) hs)
def HB(K:f'):R2:=λx y H Q=>GC K x y H Q\/JL K x y H Q\/Ko x y H Q
def DL:l6 X (HB X.K):=XB.or (XT.or (by
  ext value slice pins s σ H x y v u Q I e f h hs;let(z,i,c,rfl,rfl,hz,g,q):=h;let(t,rfl):=e;let(t',rfl):=f;let(j,d,k,h3,l,m):=Cw g;let hl:z.cps.toList.length=z.length:=by simp[Str.length]
  rw[hl]at d l m;let hn:=mL;$(ah5 (typeIs_str s z t) slot_str_getitem.lookup (getItem_str (by lia) (by rw[d];$$$$k) {.str ⟨#[c]⟩,H,I.tok _,{_,ρ},q}) hs)))
def Nn(its:List cm)(n j:Nat)(u:cm):ZF (·.setIfInBounds j u) {cls:=.type "list",data:=.seq its.toArray n}={cls:=.type "list",data:=.seq (its.set j u).toArray n}:=by simp[ZF]
def Inv.L (I:Inv X c d H s)(h:H p=al (.L xs)) :
  ∃(its:List cm) (n:Nat),aO xs its/\s.heap.get? p=al {cls:=.type "list",data:=.seq its.toArray n}/\xs.length<=sizeLine:=by
 let(z,its,n,r,e):=I.ao p _ h;$(⟨its,n,r,e,z⟩)
def Inv.KZ{c:List (dn×zI)}{g:St}{H:Hp}{s:cA}{p:dn}{xs ys:List V}{its its':List cm}{n d:Nat}{f:zI->zI}(I:Inv X c g H s)(h:H p=al (.L xs))
 (ho:s.heap.get? p=al {cls:=.type "list",data:=.seq its.toArray n})(i:f {cls:=.type "list",data:=.seq its.toArray n}={cls:=.type "list",data:=.seq its'.toArray d})(r:aO ys its')(hz:ys.length<=c6)(t:Nat) :
  Inv X c g (upd H p<|.L ys) {s with heap:=s.heap.update p f,toks:=t}:=by
 let e:(s.heap.update p f).get? p=al {cls:=.type "list",data:=.seq its'.toArray d}:=by rw[ua f ho (by rw[i]<;>rfl),i]
 apply I.write (by rw[h];trivial) (ι ρ) (λb u j q=>(sW _ _<|Ne.symm j).trans q) {_,e};$(⟨hz,its',d,r,e⟩)
def Xz:V->V->V->Hp->(Hp->Prop)->Prop:=λo i v H Q=>∃p xs k j,o=.ref p/\i=.int k/\H p=al (.L xs)/\iC xs.length k=al j/\Q (upd H p<|.L<|xs.set j v)
def set_list:El X Xz:=by
 ext d s l H o i v ov iv u Q I m w x h;let(p,xs,k,j,rfl,rfl,f,y,q):=h;$$m;let(t,rfl):=w;let(its,n,r,ho,hz):=I.L f;let(c,h2,z,A):=FG y;let hl:=r.length;let hn:=mL;let g:Inv X d l (upd H p<|.L<|xs.set j v) {s with heap:=s.heap.update p (ZF (·.setIfInBounds j u))} :=
  I.KZ f ho (Nn its n j u) (r.set x j) (by rw[LK];$hz) s.toks
 ext(h0:0<=k)
 .let e:k.toNat=j:=by rw[af0 h0 A]at c;$(Option.some.inj c)
  $(W.ki_setAt ho h0 (by lia) (by simp!) (by rw[e];$({_,g,q})))
 let e:(k+(its.toArray.size:Int)).toNat=j:=by rw[afr ∅ z]at c;rw[gs,<-hl];$(Option.some.inj c)
 $(W.ki_setBack ho ∅ (by simp!) (by lia) (by rw[e];$({_,g,q})))
theorem P0(lo c)(n):(abU lo c am n).1=((bu n 0 lo:Nat):Int)/\(abU lo c am n).2.1=((bu n n c:Nat):Int)/\(abU lo c am n).2.2=1:=by
 $({?_,?_,ρ})
 .cases lo with
  |none=>simp[abU,bu]
  |some i=>simp?[abU,bu,Option.getD_none,if_true];grind
 cases c with
 |none=>simp[abU,bu]
 |some i=>simp?[abU,bu,Option.getD_none,if_true];grind
def N5(its:List cm)(lo c:Option Int):slicePick its.toArray lo c am=((its.drop<|bu its.length 0 lo).take (bu its.length its.length c-bu its.length 0 lo)).toArray:=by let(d,e,f):=P0 lo c its.toArray.size;delta slicePick;simp?[d,e,f];simp?[sliceRange_one,pick_run]<;>rfl
def U'(K:f'):V->Option Int->Option Int->Hp->VK->Prop:=λx lo c H Q=>∃a xs,x=.ref a/\cC K H a xs/\∀p,H p=am->Q (.ref p) (upd H p<|.L<|jC xs lo c)
def VV:ng X (U' X.K):=by ext pins s σ H x v vl vu lo c sl Q I f hs g i h;let(a,xs,rfl,j,q):=h;$$f;let(its,r,e,hz):=I.list j;let d:=r.length;$({"list",_,adY.lookup,e.isList.typeIs,?_});$(ae2 e.isList hs g i .none ⋯ ?_ (by rw[gs]<;>$_));rw[N5,<-d];$({.ref s.heap.objs.size,_,I.laid (λb ob q=>eu _ q) (eT _) ?_,ρ,q _<|I.ao.fresh<|eT _});$({n5 (C3 xs lo c) hz,_,0,(r.drop<|bu xs.length 0 lo).take (bu xs.length xs.length c-bu xs.length 0 lo),gi _ ρ})
def Oc:aZ X (nr .NotIn) (λx y H Q=>∃i j,x=.str i/\y=.str j/\Q (.bl<|!(!(z9 j i 0 j.length 1).isEmpty)) H):=by ext pins s σ H x y v u Q I c d h;let(i,j,rfl,rfl,q):=h;let(t,rfl):=c;let(t',rfl):=d;$(notIn_str {.bl _,H,I,ρ,q})
def TR:bN X (.builtin "len") (λxs H Q=>∃p ys,xs=[.ref p]/\(cC X.K H p ys\/bf X.K H p ys)/\Q (.int ys.length) H):=by
 ext pins s σ H xs us Q I r h;let(p,ys,rfl,d,q):=h;let(u,rfl,g):=vals1 r;$$g;let hn:=mL;let d||d:=d
 .let(its,e,f,hz):=I.list d;let c:=e.length;$(Calls.call_len_list f.isList (by grind) {.int ys.length,H,I.tok _,{s.toks+1,by rw[gs,c]},q})
 let(its,e,f,hz):=I.tuple d;let c:=e.length;$(len_tuple f (by grind) {.int ys.length,H,I.tok _,{s.toks+1,by rw[gs,c]},q})
def QI:bN X (.builtin "len") (λxs H Q=>∃z,xs=[.str z]/\z.length<=c6/\Q (.int z.length) H):=by ext pins s σ H xs us Q I r h;let(z,rfl,hz,q):=h;let(u,rfl,t,rfl):=vals1 r;let hn:=mL;$(len_str (by lia) {.int z.length,H,I.tok _,{_,ρ},q})
def bN.or (h:bN X f r)(h':bN X f d):bN X f (λxs H Q=>r xs H Q\/d xs H Q):=by
 ext c s e H xs us Q I rs q;let q||q:=q
 .$(h c s e H xs us Q I rs q)
 $(h' c s e H xs us Q I rs q)
def OZ:bN X (.type "list") (λxs H Q=>∃p ys,xs=[.ref p]/\(cC X.K H p ys\/bf X.K H p ys)/\∀l,H l=am->Q (.ref l) (upd H l<|.L ys)):=by
 ext i s v H xs us Q I r h;let(p,ys,rfl,f,q):=h;let(u,rfl,x):=vals1 r;$$x;let g:∀(its:List cm),aO ys its->ys.length<=c6->∀(h':nk) (c:Nat),(∀b t,s.heap.get? b=al t->h'.get? b=al t) ->
   h'.get? s.heap.objs.size=al {cls:=.type "list",dict:=am,data:=.seq its.toArray c,slots:=#[]}->EP X i v Q (.ref s.heap.objs.size) {s with heap:=h'}:=λits d hz h' c kp e =>
  {.ref s.heap.objs.size,_,I.laid kp (eT _) (show cH X.prog X.w _ h' _ (.L ys)from⟨hz,its,c,d,e⟩),ρ,q _<|I.ao.fresh<|eT _}
 let f||f:=f
 .let(its,d,j,hz):=I.list f;let k:=d.length;let(o,ho,m,n,hd):=j.isList;$(aid p (ι ρ) ho m hd (λh' c kp e=>g its d hz h' c kp e) (by simp!))
 let(its,d,j,hz):=I.tuple f;let k:=d.length;let(o,ho,m,n,hd):=j;$(aid p (τ ρ) ho m hd (λh' c kp e=>g its d hz h' c kp e) (by simp!))
def Jy:bN X (.type "tuple") (λxs H Q=>∃p ys,xs=[.ref p]/\((cC X.K H p ys/\∀l,H l=am->Q (.ref l) (upd H l<|.U ys))\/(bf X.K H p ys/\Q (.ref p) H))):=by
 ext c s i H xs us Q I r h;let(p,ys,rfl,h):=h;let(u,rfl,k):=vals1 r;$$k;let(d,q)||(d,q):=h
 .let(its,f,g,hz):=I.list d;let hlen:=f.length;$(call_tuple_list g.isList (λh' kp=>?_) (by simp!));let j:=I.kept (t':=s.toks) kp;let m:Inv X c i (upd H h'.objs.size<|.U ys) {s with heap:=h'.push {cls:=.type "tuple",data:=.seq its.toArray} } :=
   j.laid (λb o e=>eu _ e) (eT _) ({hz,its,f,afI _ _})
  $({.ref h'.objs.size,_,m,ρ,q _<|j.ao.fresh<|eT _})
 let(its,f,g,hz):=I.tuple d;$(call_tuple_same g {.ref p,H,I,ρ,q})
def AN(K:f')(T:String)(x:V)(H:Hp):Prop:=match x with
 | .str _=>T="str"
 | .int _=>T="int"
 | .ref p=>(T="list"/\∃xs,cC K H p xs)\/(T="tuple"/\∃o,K.lookup p=al o/\o.cls=.type "tuple"/\o.dict=am) \/
   (T="dict"/\((∃kvs,H p=al (.dK kvs))\/∃kvs,H p=al (.dT kvs)))\/(T="set"/\∃S n,H p=al (.set S n))
 |_=>False
theorem Gn (I:Inv X f j H s)(r:RelV x v)(ty:AN X.K T x H) :
  s.TypeIs v T/\∀a,v=.ref a->∃ob,s.heap.get? a=al ob/\ob.dict=am:=by
 cases x with
 |str z=>let(t,rfl):=r;cases(ty);simp[typeIs_str]
 |int i=>let(t,rfl):=r;cases(ty);simp[agp]
 |ref p =>
  $$r;let(rfl,xs,k)||(rfl,o,d,l,hd)||(rfl,d)||(rfl,S,n,d):=ty
  .let(its,_,h,_):=I.list k;$({h.isList.typeIs,λa e=>?_});$$$e;let(o,n,e,c,hd,_):=h;$(⟨o,e,hd⟩)
  .$({{o,I.fY p o d,l},λa e=>?_});$$$e;$({o,I.fY _ o d,hd})
  .let z:∃o,s.heap.get? p=al o/\o.ExactDict:=by
    let(kvs,d)||(kvs,d):=d
    .let(_,_,_,_,o,_,_,e,ex,_):=I.ao p _ d;$(⟨o,e,ex⟩)
    let(_,_,_,_,o,_,_,e,ex,_):=I.ao p _ d;$(⟨o,e,ex⟩)
   let(o,e,ex):=z;$({⟨o,e,ex.1⟩,λa g=>?_});$$$g;$(⟨o,e,ex.2.1⟩)
  let(o,_,_,_,e,ex,_):=I.ao p _ d;$({⟨o,e,ex.1⟩,λa g=>?_});$$$g;$(⟨o,e,ex.2.1⟩)
 |_=>$(KX ty)
def Gg(K:f')(T:String)(r:V->List V->Hp->VK->Prop)(to:TE):TE:=λd H Q=>to d H λx c=>AN K T x c/\r x [] c Q
def vJ(K:f')(T:String)(r:V->List V->Hp->VK->Prop)(to:TE)(t:TA):TE:=λc H Q=>to c H λx d=>AN K T x d/\t c d λxs e=>r x xs e Q
variable{o e:hF}{es:List hF}{to:TE}{t:TA}{name:eS}{apos cpos:u1}{T id:String}{r:V->List V->Hp->VK->Prop}
def R5(l:PlainAttrs T)(slot:Slot T name id)(g:typeOf (.builtin id)=pure (.type "method_descriptor"))(hm:uk X id r)(ho:PE X o to)
 (d:aae o name X.env (eval o X.env)=eval o X.env:=by rfl)(f:(apos.endLine==cpos.line)=bi:=by rfl):PE X (.Call (.Attribute o name apos) [] [] cpos) (Gg X.K T r to):=by
 ext c s i H Q I h;$(wpAny_Call_method0_late d f (aI (ho c s i H _ I h) λv m ⟨x,n,j,k,ty,p⟩=>?_));let(q,u):=Gn j k ty;$({T,id,l,slot,g,q,u,aez ρ<|PySem.evalArgs_none<|hm c m i n x [] v [] Q j k .nil p})
def sN(n:PlainAttrs T)(slot:Slot T name id)(k:typeOf (.builtin id)=pure (.type "method_descriptor"))(hm:uk X id r)(ho:PE X o to)(p:PA X (e::es) t)
 (f:aae o name X.env (eval o X.env)=eval o X.env:=by rfl)
 (i:((T' cpos<|km (e::es) X.env).all (λx=>!x.1)&&(backToKw cpos<|keywordEach [] X.env).all (λx=>x.1.isSome)
   && bd ((e::es).length+([]:List agO).length+(if([]:List agO).isEmpty then 0 else 1)<30))=bi:=by rfl)
 (g:(apos.endLine==cpos.line)=bi:=by rfl)(hs:bD X e es:=by rfl)(d:(T' cpos<|km es X.env).any (·.1)=bn:=by rfl) :
  PE X (.Call (.Attribute o name apos) (e::es) [] cpos) (vJ X.K T r to t):=by
 $(λc s j H Q I h=>wpAny_Call_method_late f i g ρ (aI (ho c s j H _ I h) λv q e=>?_));let(x,u,l,m,ty,w):=e;let(y,z):=Gn l m ty;$({T,id,n,slot,k,y,z,?_});let hA:=p cpos c q j u _ l w;rw[hs]at hA ⊢;$(aez (by show(false||(T' cpos<|km es X.env).any (·.1))=bn;rw[d]<;>rfl)<|aeL ?_);$(aI hA λus A ⟨vs,B,C,D,E⟩=>hm c A j B x vs v us Q C m D E)
end
def AM(X:Cx)(id:String)(r:V->List V->Hp->VK->Prop):Prop :=
 ∀(a:List (dn×zI)) (s:cA) (b:St) (H:Hp) (x:V) (xs:List V) (v:cm) (us:List cm) (Q:VK),Inv X a b H s->RelV x v->aO xs us->r x xs H Q ->
  gj (hM X.prog X.w) X.A (call (.builtin id) (v::us)) (EP X a b Q) X.xe s
theorem aO.one (h:aO [x] us):∃u,us=[u]/\RelV x u:=by
 cases h with
 |cons r t=>$$$t;$({_,ρ,r})
theorem aO.two (h:aO [x,y] us):∃u v,us=[u,v]/\RelV x u/\RelV y v:=by
 cases h with
 |cons r t=>let(v,e,q):=aO.one t;$({_,v,by rw[e],r,q})
theorem aO.zero:∀{us:List cm},aO [] us->us=[]
 |_,.nil=>rfl
section
variable{X:Cx}{pins:List (dn×zI)}{σ:St}{H:Hp}{s:cA}{l b:dn}{xs ys zs:List V}{prog:hZ}{w:nL}{A:ow}{E:cm->cA->Prop}
def Inv.x9{its its':List cm}{n:Nat}{f:Array cm->Array cm}{t':Nat}(I:Inv X pins σ H s)(a:H l=al (.L xs))
 (e:s.heap.get? l=al {cls:=.type "list",data:=.seq its.toArray n})(c:f its.toArray=its'.toArray)(d:aO ys its')(hz:ys.length<=c6) :
  Inv X pins σ (upd H l<|.L ys) {s with heap:=s.heap.update l<|ZF f,toks:=t'}:=by
 let q:=PySem.IsL.update e f;rw[c]at q;apply I.write (by rw[a];$trivial) (ι ρ) (λb' u g h=>(sW s.heap (ZF f)<|Ne.symm g).trans h) {_,q};$({hz,its',_,d,q})
def Inv.xB (I:Inv X pins σ H s)(a:aO ys its)(hz:ys.length<=c6) :
  Inv X pins σ (upd H s.heap.objs.size<|.L ys) {s with heap:=s.heap.push {cls:=.type "list",data:=.seq its.toArray},toks:=t'} :=
 I.laid (λ_ _ q=>eu _ q) (eT _) {hz,its,0,a,gi _ ρ}
def Inv.fresh(I:Inv X pins σ H s):H s.heap.objs.size=am:=I.ao.fresh<|eT _
def Inv.zy(I:Inv X pins σ H s)(a:H l=al (.L xs)):xs.length<=c6/\∃(its:List cm) (n:Nat),aO xs its/\xs.length=its.length/\s.heap.get? l=al {cls:=.type "list",data:=.seq its.toArray n}:=by let(z,its,n,r,e):=I.ao l _ a;$(⟨z,its,n,r,r.length,e⟩)
def XW (h:n<=c6):aaH n=bn:=by simp![aaH]
def FL:V->List V->Hp->VK->Prop:=λx vs H Q=>∃l xs y,x=.ref l/\vs=[y]/\H l=al (.L xs)/\xs.length<c6/\Q .aG (upd H l<|.L<|xs++[y])
def CU:AM X "list.append" FL:=by ext pins s σ H x vs v us Q I c d h;let(l,xs,y,rfl,rfl,a,hz,q):=h;$$c;let(u,rfl,f):=d.one;let(z,its,n,r,hl,e):=I.zy a;$(aco aeJ {_,e,ρ} F.entry_list_append (F.args_list_append_2 _ _) (PySem.list_append l its.toArray n u (by rw[gs];$_)) {e,?_});$({.aG,_,I.x9 a e ⋯ (r.append<|.cons f .nil) ?_,ρ,q});rw[eR,abn];$_
def Gb:V->List V->Hp->VK->Prop:=λx vs H Q=>∃l xs,x=.ref l/\vs=[]/\H l=al (.L xs)/\Q .aG (upd H l<|.L [])
theorem WL:AM X "list.clear" Gb:=by ext pins s σ H x vs v us Q I d f h;let(l,xs,rfl,rfl,a,q):=h;$$d;let c:=f.zero;$$c;let(z,its,n,r,hl,e):=I.zy a;$(aco aeX {_,e,ρ} F.entry_list_clear (F.args_list_clear_1 _) (AutoSeq1.list_clear_list_0 l its.toArray n (by rw[gs];$_)) {e,?_});$({.aG,_,I.x9 (its':=[]) (ys:=[]) a e ρ .nil<|nT _,ρ,q})
set_option maxRecDepth 100000 in
end
section
variable{κ:Type}[DecidableEq κ]
def fZ(kvs:List (κ×V))(k:κ):Option V:=(kvs.find? λa=>bd<|a.1=k).map (·.2)
def putK(kvs:List (κ×V))(k:κ)(v:V):List (κ×V) :=
 if(kvs.any λa=>bd<|a.1=k)=bi then kvs.map (λa=>if a.1=k then(a.1,v)else a)else kvs++[(k,v)]
def sd{p:κ×V}{r:List (κ×V)}{k:κ}(e:p.1=k):fZ (p::r) k=al p.2:=by simp[fZ,abJ,e]
def ug{p:κ×V}{r:List (κ×V)}{k:κ}(e:¬p.1=k):fZ (p::r) k=fZ r k:=by simp[fZ,abJ,e]
theorem vO(k):∀kvs:List (κ×V),(kvs.any λa=>bd<|a.1=k)=(fZ kvs k).isSome
 |[]=>rfl
 | p::r=>by
  simp;ext(e:p.1=k)
  .simp?[sd e,decide_eq_true e,Bool.true_or,Option.isSome_some]
  simp?[ug e,decide_eq_false e];$(vO k r)
theorem yn(kvs:List (κ×V))(k:κ)(v:V):(putK kvs k v).length<=kvs.length+1:=by
 $$(putK);split
 .simp?[a8];lia
 simp
theorem kI.rQ (r:kI o u):o.isSome=u.isSome:=by
 cases o with
 | none=>cases u with
  |none=>rfl
  |some _=>$((r).elim)
 | some _=>cases u with
  |none=>$((r).elim)
  |some _=>rfl
theorem KV.val (r:KV kvs vs)(k:κ):kI (fZ kvs k) (afp vs k):=by
 unfold KV at r;induction r with
 |nil=>$abo
 | @cons p q ps a h t ih =>
  let(c,d):=h;ext(e:p.1=k)
  .let f:=c.symm.trans e;let b:afp (q::a) k=al q.2:=by simp[afp,abJ,f]
   rwa[sd e,b]
  simp![afp,ug]
theorem KV.any (r:KV kvs vs)(k:κ):(kvs.any λa=>bd<|a.1=k)=vs.any λa=>bd (a.1=k):=by
 induction r with
 |nil=>rfl
 |cons h t b=>rw[aa6,aa6,b,h.1]
theorem KV.jy (r:KV kvs vs)(k:κ)(c:RelV y u) :
  KV (kvs.map λa=>if a.1=k then(a.1,y)else a) (vs.map λa=>if a.1=k then(a.1,u)else a):=by
 unfold KV at r ⊢;induction r with
 |nil=>$(.nil)
 | @cons p q ps qs h t d =>
  rw[hH,hH];$(.cons ?_ d);let(b,h2):=h;ext(e:p.1=k)
  .rw[if_pos e,if_pos<|b.symm.trans e];$(⟨b,c⟩)
  simp!
def KV.put (r:KV kvs vs)(k:κ)(a:RelV y u):KV (putK kvs k y) (stored vs k u):=by
 delta putK stored;rw[r.any k];ext(e:(vs.any λb=>bd<|b.1=k)=bi)
 .rw[if_pos e,if_pos e];$(r.jy k a)
 rw[if_neg e,if_neg e];$(Paired.snoc r ⟨ρ,a⟩)
theorem KV.keys{kvs:List (κ×V)}{vs:List (κ×cm)}(r:KV kvs vs):kvs.map (·.1)=vs.map (·.1):=by
 induction r with
 |nil=>rfl
 |cons h t a=>rw[hH,hH,a,h.1]
def KV.length (r:KV kvs vs):kvs.length=vs.length:=Paired.length r
end
theorem pS (r:RelV (kV k) u):(cZ P w).is k u=bi:=by
 cases k with
 |inl i=>let(t,e):=(r);$$e;$((λprog w i t=>O' i t) P w i t)
 |inr x=>let(t,e):=(r);$$e;$((λprog w x t=>GL x t) P w x t)
theorem A4:∀{a:List Key}{us:List cm},aO (a.map kV) us->ItemsAre (cZ P w) a us
 |[],_,r=>by rw[abS]at r;$$$r;$(.nil)
 | k::a,_,r=>by
  cases r with
  |cons h t=>$(.cons (pS h)<|A4 t)
abbrev KT(H:Hp):List (List Key×V)->List (List Key×dn×cm)->Prop:=aaO λp q=>p.1=q.1/\H q.2.1=al (.U<|p.1.map kV)/\RelV p.2 q.2.2
theorem KT.val (r:KT H kvs xs)(k:List Key):kI (fZ kvs k) ((af2 xs k).map (·.2)):=by
 induction r with
 |nil=>$abo
 | @cons p q ps a h t ih =>
  let(c,_,d):=h;ext(e:p.1=k)
  .let f:=c.symm.trans e;let b:af2 (q::a) k=al q.2:=by simp[af2,abJ,f]
   rwa[sd e,b]
  simp![af2,ug]
theorem KT.jy (r:KT H kvs xs)(k:List Key)(d:RelV y u) :
  KT H (kvs.map λb=>if b.1=k then(b.1,y)else b) (xs.map<|putAt k u):=by
 induction r with
 |nil=>$(.nil)
 | @cons p q ps qs h t f =>
  simp;$(.cons ?_ f);let(a,c,g):=h;delta putAt;ext(e:p.1=k)
  .rw[if_pos e,if_pos<|a.symm.trans e];$(⟨a,c,d⟩)
  rw[if_neg e,if_neg<|λz=>e<|a.trans z];$(⟨a,c,g⟩)
def KT.put (r:KT H kvs xs)(k:List Key)(c:H b=al (.U<|k.map kV))(a:RelV y u) :
  KT H (putK kvs k y) (storedH xs k b u):=by
 let e:(kvs.any λd=>bd<|d.1=k)=(af2 xs k).isSome:=by rw[vO,(r.val k).rQ,ac4]
 delta putK storedH;rw[e];ext(q:(af2 xs k).isSome=bi)
 .rw[if_pos q,if_pos q];$(r.jy k a)
 rw[if_neg q,if_neg q];$(Paired.snoc r ⟨ρ,c,a⟩)
def KT.keeps (r:KT H kvs xs)(c:∀b ys,H b=al (.U ys)->a b=al (.U ys)):KT a kvs xs :=
 Paired.tj r λ_ _ z=>{z.1,c _ _ z.2.1,z.2.2}
section
variable{P:hZ}{w:nL}{H:Hp}{h:nk}{a:dn}{X:Cx}{pins:List (dn×zI)}{σ:St}{s:cA}{y v:V}{u r:cm}{o:Option V}{A:ow}{E:cm->cA->Prop}
def vb{u:HO}(ok:cg P w H h)(e:Rd H a u):cH P w H h a u:=e.ok ok
def mZ (ok:cg P w H h)(e:Rd H a (.dK kvs)):kvs.length<=c6/\(a==NN)=bn/\∃vs,KV kvs vs/\h.DictOf (cZ P w) a vs :=
 show cH P w H h a (.dK kvs)from vb ok e
def tR (ok:cg P w H h)(e:H a=al (.U<|b.map kV)):(aej<|cZ P w).is h b a:=by let(_,its,r,o,c,d,n,f):=(ok a _ e);$({o,its.toArray,n,c,d,f,by$$$$(A4 r)})
theorem sy (ok:cg P w H h)(e:Rd H a (.dT kvs)):kvs.length<=c6/\(a==NN)=bn /\
  ∃xs,KT H kvs xs/\h.DictOfH (aej<|cZ P w) a xs:=by
 let(z,y,xs,r,o,c,ep,d,f,g,i,j):=(vb ok e);$({z,y,xs,r,o,c,ep,d,f,g,i,λx b=>?_,j});let all:∀{l:List (List Key×V)}{m:List (List Key×dn×cm)},KT H l m->∀x∈m,(aej<|cZ P w).is h x.1 x.2.1:=by
  ext l m q;induction q with
  |nil=>simp
  | @cons p q ps qs hq t k =>
   ext x b;let e||b:=eW.1 b
   .$(tR ok (by simp!))
   $(k x b)
 $(all r x b)
def jI(H:Hp)(a:dn)(y:V)(r:Option V):Prop :=
 (∃kvs k,Rd H a (.dK kvs)/\y=kV k/\r=fZ kvs k)\/∃kvs k b,Rd H a (.dT kvs)/\y=.ref b/\H b=al (.U<|k.map kV)/\r=fZ kvs k
def mD(H:Hp)(a:dn)(y v:V)(c:Hp):Prop :=
 (∃kvs k,H a=al (.dK kvs)/\y=kV k/\kvs.length<c6/\c=upd H a (.dK<|putK kvs k v)) \/
 ∃kvs k b,H a=al (.dT kvs)/\y=.ref b/\H b=al (.U<|k.map kV)/\kvs.length<c6/\c=upd H a (.dT<|putK kvs k v)
theorem jI.k{H:Hp}{a:dn}{kvs:List (Key×V)}{k:Key}(e:H a=al (.dK kvs)):jI H a (kV k) (fZ kvs k):=ι {kvs,k,ι e,ρ,ρ}
theorem mD.k{H:Hp}{a:dn}{kvs:List (Key×V)}{k:Key}{v:V}(e:H a=al (.dK kvs))(hl:kvs.length<c6):mD H a (kV k) v (upd H a<|.dK<|putK kvs k v):=ι ⟨kvs,k,e,ρ,hl,ρ⟩
def mD.t{H:Hp}{a b:dn}{kvs:List (List Key×V)}{k:List Key}{v:V}(e:H a=al (.dT kvs))(c:H b=al (.U<|k.map kV))(hl:kvs.length<c6) :
  mD H a (.ref b) v (upd H a<|.dT<|putK kvs k v):=τ ⟨kvs,k,b,e,ρ,c,hl,ρ⟩
def Inv.vK(I:Inv X pins σ H s):NN<s.heap.objs.size:=by$(aaT ⋯<|(I.mod.glob.keeps I.bk).lt)
def W5 (n:A.units+1<u2)(I:Inv X pins σ H s)(g:jI H a y (al v))(j:RelV y u)(h:∀c s',Inv X pins σ H s'->RelV v c->Q c s') :
  gj (hM X.prog X.w) A (adj (.ref a) u) Q E s:=by
 let(kvs,k,e,i,l)||(kvs,k,b,e,i,q,l):=g
 .$$i;let(z,hd,vs,d,dd):=mZ I.ao e;let(c,hw,f):=kI.some_of (by rw[l];$(d.val k));$(wpAny_getItem_of (pS j) dd.mapOf hw<|h c _ (I.tok _) f)
 $$i;cases(j);let(z,hd,xs,d,dd):=sy I.ao e;let(c,hw,f):=kI.some_of (by rw[l];$(d.val k));let(p,t,m):=ft.1 hw;apply wpAny_getItem_heap (acn n) (tR I.ao q) dd t;simp[m];$(h c _ (I.tok _) f)
def KR (i:A.units+1<u2)(I:Inv X pins σ H s)(g:jI H a y o)(f:RelV y u)(h:∀s',Inv X pins σ H s'->Q (.bool o.isSome) s') :
  gj (hM X.prog X.w) A (nr .In u<|.ref a) Q E s:=by
 let(kvs,k,e,d,l)||(kvs,k,b,e,d,j,l):=g
 .$$d;let(z,hd,vs,c,dd):=mZ I.ao e;apply wpAny_in_of (pS f) hd dd.mapOf;rw[<-(c.val k).rQ,<-l];$(h _<|I.tok _)
 $$d;cases(f);let(z,hd,xs,c,dd):=sy I.ao e;apply wpAny_in_heap (acn i) (tR I.ao j) hd dd;let q:=(c.val k).rQ;rw[ac4]at q;simp?[<-q,<-l];$(h _<|I.tok _)
def U3 (i:A.units+1<u2)(I:Inv X pins σ H s)(g:jI H a y o)(f:RelV y u)(h:∀s',Inv X pins σ H s'->Q (.bool<|!o.isSome) s') :
  gj (hM X.prog X.w) A (nr .NotIn u<|.ref a) Q E s:=by
 let(kvs,k,e,d,l)||(kvs,k,b,e,d,j,l):=g
 .$$d;let(z,hd,vs,c,dd):=mZ I.ao e;apply wpAny_notIn_of (pS f) hd dd.mapOf;rw[<-(c.val k).rQ,<-l];$(h _<|I.tok _)
 $$d;cases(f);let(z,hd,xs,c,dd):=sy I.ao e;apply wpAny_notIn_heap (acn i) (tR I.ao j) hd dd;let q:=(c.val k).rQ;rw[ac4]at q;simp?[<-q,<-l];$(h _<|I.tok _)
def Es (I:Inv X pins σ H s)(d:tE (H a))(hs:L' a s.heap h')(f:∃q,h'.get? a=al q)(c:cH X.prog X.w (upd H a ob) h' a ob) :
  Inv X pins σ (upd H a ob) {s with heap:=h',toks:=t'} :=
 I.write d (ι ρ) (λb q g z=>(hs.2 b g).trans z) f c
def BK (z:kvs.length<=c6)(hd:(a==NN)=bn)(b:KV kvs vs)(dd:h'.DictOf (cZ P w) a vs) :
  cH P w c h' a (.dK kvs):=⟨z,hd,vs,b,dd⟩
def WR (B:A.units+1<u2)(I:Inv X pins σ H s)(g:mD H a y v n)(p:RelV y u)(t:RelV v r)(h:∀s',Inv X pins σ n s'->Q () s') :
  gj (hM X.prog X.w) A (afq (.ref a) u r) Q E s:=by
 let(kvs,k,e,j,l,m)||(kvs,k,b,e,j,x,l,m):=g
 .subst j m;let(z,hd,vs,d,dd):=(λok e=>mZ ok<|ι e) I.ao e;let hz:vs.length<=sizeLine:=by rw[<-d.length];$z
  let hl:(putK kvs k v).length<=sizeLine:=by grind [yn]
  $(wpAny_setItem_pairs (hsz:=hz) (pS p) dd λh' f hs=>h _ ?_);let C:∃q,h'.get? a=al q:=let⟨q,_,_,i,_⟩:=f;⟨q,i⟩
  $(Es I (by rw[e];$abo) hs C<|BK hl hd (d.put k t) f)
 subst j m;cases(p);let(z,hd,xs,d,dd):=(λok e=>sy ok<|ι e) I.ao e;let hz:xs.length<=sizeLine:=by rw[<-Paired.length d];$z
 let hl:(putK kvs k v).length<=sizeLine:=by grind [yn]
 $(wpAny_setItem_heap (hsz:=hz) (acn B) (tR I.ao x) dd λh' f hs=>h _ ?_);let(q,D,ep,i,F,G,J,_,K):=f;$(Es I (by rw[e];$abo) hs ⟨q,i⟩ {hl,hd,_,(d.put k x t).keeps λc ys L=>?_,q,D,ep,i,F,G,J,K});rw[aA (by lia)];$L
end
section
variable{X:Cx}{pins:List (dn×zI)}{σ:St}{H:Hp}{s:cA}{a:dn}{kvs:List (Key×V)}{k:Key}{u:cm}{A:ow}{E:cm->cA->Prop}
def UD (I:Inv X pins σ H s)(e:Rd H a (.dK kvs))(h:∀t s',Inv X pins σ H s'->Q (.int kvs.length t) s'):gj (hM X.prog X.w) A (call (.builtin "len") [.ref a]) Q E s:=by let(z,hd,vs,b,dd):=mZ I.ao e;apply call_len_dict hd dd (by rw[<-b.length];rw[wm]at z;$_);rw[<-b.length];$(h _ _<|I.tok _)
end
def Dz(i:hF):Prop:=∀a b,aen i false a b=operate [a,b] (adj a b)
theorem OU{prog:hZ}{w:nL}{A:ow}{E:cm->cA->Prop}{s:cA}{env:Env}{value slice:hF}{pos:u1}{T id:String}{Q:cm->cA->Prop}
 (hl:acm (.type T) "__getitem__"=pure (al<|.builtin id))(hs:Dz slice)
 (h:gj (hM prog w) A (eval value env) (λo c=>gj (hM prog w) A (eval slice env) (λi a=>a.TypeIs o T/\gj (hM prog w) A (adj o i) Q E a) E c) E s) :
  gj (hM prog w) A (eval (.Subscript value slice pos) env) Q E s:=by
 $(aeM (z6 h (λo c f=>z6 f (λi a b=>?_) λ_ _ x=>x) λ_ _ x=>x));let(j,b):=b;apply bg;$(bg<|aet j hl ?_);let d:gj (hM prog w) A (aen slice false o i) (λr e=>gj (hM prog w) A (letTemporaryGo value o r >>= λ_=>pure r) Q E e) E a:=by rw[hs o i];$(wpAny_operating (z6 b (λr e g=>bg<|wpAny_letTemporaryGo<|dr g) λ_ _ x=>x))
 first
  |$(dr (bg d))
  |$(bg (dr<|bg d))
  |$(bg d)
def Rf(d ty:TE):TE:=λb H Q=>d b H λx e=>ty b e λy c=>∃a v,x=.ref a/\jI c a y (al v)/\Q v c
def RH(d ty e:TE):TS:=λD b H=>e b H λv f=>d b f λx g=>ty b g λy h=>∃a c,x=.ref a/\mD h a y v c/\D.nx b c
section
variable{X:Cx}{o i e value:hF}{pos pos' tpos:u1}{td ty tv:TE}{pins:List (dn×zI)}{σ:St}{H:Hp}{s:cA}{a:dn}{kvs:List (Key×V)}{A:ow}{E:cm->cA->Prop}
def yy(d:X.A.units+1<u2)(ho:PE X o td)(f:PE X i ty)(hs:Dz i):PE X (.Subscript o i pos) (Rf td ty):=by
 $(λpins s σ H Q I h=>OU PySem.F.slot_dict_getitem.lookup hs (aI (ho pins s σ H _ I h) λu j ⟨x,k,l,m,n⟩=>aI (f pins j σ k _ l n) λiv s2 e=>?_));let(y,p,b,q,a,v,ex,g,r):=e
 $$ex;obtain rfl:u=mA a:=m;$(⟨(λI g=>by
   let(kvs,k,e,_,_)||(kvs,k,b,e,_,_,_):=g
   .let(_,_,vs,_,dd):=mZ I.ao e;$dd.typeIs
   let(_,_,xs,_,dd):=sy I.ao e;$dd.typeIs) b g,W5 d b g q λw' s3 t c=>⟨v,p,t,c,r⟩⟩)
def HN(b:X.A.units+1<u2)(ho:PE X o td)(c:PE X i ty)(d:PE X value tv)(hs:z8 value (al<|.Subscript o i pos') pos.line X.env=pure false) :
  PS X (.Assign [.Subscript o i pos'] value pos) (RH td ty tv):=by
 $(λpins s σ H D I h=>wpAny_Assign_Subscript (aI (d pins s σ H _ I h) λr f ⟨v,j,k,l,m⟩=>aI (ho pins f σ j _ k m) λu n ⟨x,p,q,t,w⟩=>aI (c pins n σ p _ q w) λiv s3 e=>?_) hs);let(y,H3,z,B,a,C,ex,g,F):=e;$$ex;obtain rfl:u=mA a:=t;$(WR b z g B l λs4 G=>⟨σ,C,G,F⟩)
def QE (h:nk)(b:NN<h.objs.size):cH P w H (h.push {cls:=.type "dict",data:=.dict #[]}) h.objs.size (.dK []) :=
 {nT _,beq_eq_false_iff_ne.2<|Ne.symm<|gD b,[],.nil,aeC h}
def M8:TE:=λ_ H Q=>∀p,H p=am->Q (.ref p) (upd H p<|.dK [])
def Qm:TE:=λ_ H Q=>∀p,H p=am->Q (.ref p) (upd H p<|.dT [])
def XD:PE X (.Dict [] [] pos) M8:=λpins s σ H Q I h =>
 ag1 {.ref s.heap.objs.size,_,I.laid (λ_ _ q=>eu _ q) (eT _)<|QE s.heap I.vK,ρ,h _<|I.ao.fresh<|eT _}
def Vu:PE X (.Dict [] [] pos) Qm:=λpins s σ H Q I h =>
 ag1 ⟨.ref s.heap.objs.size,_,I.laid (λ_ _ q=>eu _ q) (eT _) ((λh b=>
   {nT _,beq_eq_false_iff_ne.2<|Ne.symm<|gD b,[],.nil,_,#[],0,gi _ ρ,⟨ρ,ρ,ρ⟩,ρ,ρ,aaL}) s.heap I.vK),ρ,h _<|I.ao.fresh<|eT _⟩
def mP(kvs more:List (Key×V)):List (Key×V):=more.foldl (λb c=>putK b c.1 c.2) kvs
theorem KV.merge:∀{more:List (Key×V)}{rs:List (Key×cm)}{kvs:List (Key×V)}{vs:List (Key×cm)},KV more rs->KV kvs vs->KV (mP kvs more) (aft vs rs):=by
 ext more rs kvs vs r;induction r generalizing kvs vs with
 |nil=>$(λq=>q)
 | @cons p q ps qs h t b =>
  ext c;let e:KV (putK kvs p.1 p.2) (stored vs q.1 q.2):=by rw[<-h.1];$(c.put p.1 h.2)
  $(b e)
theorem Dd:∀(more kvs:List (Key×V)),(mP kvs more).length<=kvs.length+more.length
 |[],kvs=>by show kvs.length<=kvs.length+0;$_
 |p::r,kvs=>by let h1:=Dd r<|putK kvs p.1 p.2;let h2:=yn kvs p.1 p.2;grind [mP]
def Qv (I:Inv X pins σ H s)(e:Rd H a (.dK kvs))(h:∀p s',H p=am->Inv X pins σ (upd H p<|.dK kvs) s'->Q (.ref p) s'):gj (hM X.prog X.w) A (call (.type "dict") [.ref a]) Q E s:=by let(z,hd,vs,c,dd):=mZ I.ao e;$(kt_call_dict hd dd (by rw[<-c.length];$z) λh' d hs=>?_);$(h _ _ (I.ao.fresh<|eT _)<|I.laid (λb q f=>?_) (eT _)<|BK z (beq_eq_false_iff_ne.2<|Ne.symm<|gD I.vK) c d);$((hs.2 b<|gD<|fj f).trans (eu _ f))
end
section
open PySem.W PySem.Calls
theorem Mz:∀(ns:List Int) (vs:List cm),WellAll P h vs (ns.map aht)->agU vs ns:=by
 ext ns;induction ns with
 |nil=>ext vs w;$$$w;$(.nil)
 |cons n ns c =>
  ext vs w;cases w with
  |cons a b =>
   $$$a;$(.cons _ _<|c _ b)
theorem XG{l:afR}{n:Nat}(k:l.most=al n){P:Params}{h:nk}{args:List WData}{b:List cm}
 (c:l.row.toRowW.claim.pre args=bi)(i:WellAll P h b args) :
  ∃a vs ns,b=[mA a]/\args=[WData.list (ns.map aht)]/\h.get? a=al {cls:=.type "list",data:=.seq vs.toArray}/\agU vs ns/\ns.length<=n:=by
 let fW:WShape.hasAll [] args [.list .int]=bi:=(pre_splitW c).1;let j:l.pre.holds [] {args:=args}=bi:=(pre_splitW c).2;let(d,r,rfl,m,o):=hasAllW_cons fW;let rfl:=hasAllW_nil o;let(xs,rfl,p):=hasW_list m;let(ns,rfl):=items_int p;let f:ns.length<=n:=by
  let e:(WTm.not<|.lt (.lit<|.int (n:Int))<|.len<|.arg 0).holds [] {args:=[.list (ns.map .int)]}=bi:=by let e:=(holds_andW j).1;rwa[k]at e
  let h5:=condW_of e<|w_not<|w_lt w_lit<|w_len_list<|w_arg ρ;simp!
 cases i with
 |cons q s =>
  $$$s;cases q with
  |list ho g=>$({_,_,ns,ρ,ρ,ho,Mz ns _ g,f})
def XM(l:afR)(args:List WData):l.row.toRowW.claim.post args (.bool true) args=bi :=
 postW_of
  rfl
  (w_eq_bool (w_res ρ) w_lit) rfl
end
theorem V8 (h:agU vs ns):aO (ns.map V.int) vs:=by
 induction h with
 |nil=>$(.nil)
 |cons n t _ a=>$(.cons ⟨t,ρ⟩ a)
def J3(H:Hp):Prop:=∀b,H b=am\/∃o xs,H b=al (.bA o<|.L xs)
theorem O4{P:hZ}{w:nL}{K:f'}{mg y:eS->Option cm}{CX:jq}{k:Nat}{fa a:dn}{I:hO}{x:eS}{sp:Sp}{c:cA}{vs:List cm}{ns:List Int}
 (J:K.In c.heap)(p:c.heap.Ns hQ mg)(f:c.heap.Ns agt y)(L:∀x:eS,x≠"__name__"->y x=ZH x)(A:c.heap.NoLimit)(U:c.gens=#[])
 (B:c.heap.get? a=al {cls:=.type "list",data:=.seq vs.toArray})(M:agU vs ns)(hl:ns.length<=c6)(X:cF k afv)
 (F:∀base:nk,K.In base->base.Ns hQ mg->aV P w K mg base CX k fa I [x] sp)(l:∀(s:cA) (u:cm),afC s I {[u],[]} [(x,u)])
 (N:∀H:Hp,J3 H->cC K H a (ns.map V.int)->sp [.ref a] H (λv _=>v=.bl true) λ_ _ _=>False)
 (O:∀H e s',CX [] H c (λ_ _ _=>False) e s'->False) :
  abu (hM P w) afv (.call (.ref fa) {[.ref a],[]}) (λr s'=>r=.ok (.ret<|.bool true)/\OldK c.heap s'.heap/\s'.os=c.os/\acS s'.gens) c:=by
 let Q:=V8 M;let C:=M.length;let j:∀H:Hp,J3 H->cC K H a (ns.map V.int)->cg P w H c.heap->(∀b,H b≠am->b=a)->(H a≠am->K.lookup a=am) ->
   abu (hM P w) afv (.call (.ref fa) {[.ref a],[]}) (λr s'=>r=.ok (.ret<|.bool true)/\OldK c.heap s'.heap/\s'.os=c.os/\acS s'.gens) c:=by
  ext H R Y ao hA hK;let g:∀{b:dn}{o:zI},c.heap.get? b=al o->H b=am->(lS c.heap H).get? b=al o:=λe n=>(λe n=>
    acv _ e λhm=>by
     let q:=(hG.1 hm).2
     simp!) e n
  let S:∀{b:dn}{o:zI}{D:Array abk}{ep:Nat},c.heap.get? b=al o->o.data=.dict D ep->H b=am:=by grind
  let i:∀{b:dn}{m:eS->Option cm},c.heap.Ns b m->(lS c.heap H).Ns b m:=λ{b m} ⟨o,D,ep,e,d,r⟩=>{o,D,ep,g e<|S e d,d,r}
  let t:K.In (lS c.heap H):=λb o e=>g (J b o e) (by grind)
  let Z:Mod K mg (lS c.heap H):={t,i p,{y,i f,L},let⟨mc,h1,h2⟩:=A;{mc,i h1,h2}};let e0:vy P w K mg (lS c.heap H) afv [] c H:={ρ,Z,λb o e=>MS e,abj<|(λh H=>W.hideAll_size _ _) _ _,trivial,λb f=>absurd (show b∈([]:List dn)from f) ⋯,ao,.of_eq U};$(aaC ((F _ t<|i p).run afv [] c H {[.ref a],[]} [.ref a] [.ref a] _ _ X e0 (l c<|.ref a) (.cons ρ .nil) (N H R Y)) λr s' h=>?_);cases r with
  |error e=>$((O H e s' h).elim)
  |ok fl =>
   cases fl with
   |next=>$(KX h)
   |brk=>$(KX h)
   |cont=>$(KX h)
   |ret u =>
    let(v,H',os,bare,un,E,r',q):=h;let q':=q;$$q';obtain rfl:u=H9 true:=r';$({ρ,OldK.of_keep λb o e=>?_,os,bare});cases q:H b with
    |none=>$(un.keep b o e q (by ext z;$(absurd (show b∈([]:List dn)from z) ⋯)) ⋯)
    |some u =>
     let z||(ob,xs,z):=R b
     .rw[q]at z;lk
     let(T,_):=ao b _ z;let(e2,_):=E b _<|un.hX b ob _ z;rw[e]at T;$$$$$$T;$e2
 cases G:K.lookup a with
 |some o=>let e:=J a o G;rw[B]at e;$$$$$$e;refine j (λ_=>am) (λ_=>ι ρ) (τ {_,vs.toArray,_,G,ρ,ρ,ρ,by rw[gs,C];$hl,by$$$$Q}) (λb u z=>by simp!) (λb z=>absurd ρ z) λz=>absurd ρ z
 |none =>
  $(j (λb=>if b=a then al (.bA {cls:=.type "list",data:=.seq vs.toArray} (.L<|ns.map V.int))else am) (λb=>?_) (ι<|τ ⟨{cls:=.type "list",data:=.seq vs.toArray},if_pos ρ⟩) (λb u z=>?_) (λb z=>?_) λ_=>G)
  .ext(f:b=a)
   .$(τ {_,_,if_pos f})
   $(ι<|if_neg f)
  .ext(f:b=a)
   .let rfl:=sO<|(if_pos f).symm.trans z;$$f;$({B,by rw[a8];$hl,vs,_,Q,B})
   simp!
  ext(f:b=a)
  .$f
  cases z (if_neg f)
def nX(s:aas):Arguments:=match s with
 |.FunctionDef _ a _ _ _ _ _ _ _ _=>a
 |_=>{posonlyargs:=[],args:=[],vararg:=am,kwonlyargs:=[],kw_defaults:=[],kwarg:=am,defaults:=[]}
def g9(s:aas):List Stmt:=match s with
 |.FunctionDef _ _ b _ _ _ _ _ _ _=>b
 |_=>[]
def aQ(s:aas):Scope:=match s with
 |.FunctionDef _ _ _ _ _ _ a _ _ _=>a
 |_=>{kind:=.function,names:=[],isGenerator:=false,isCoroutine:=false}
abbrev bc:jq:=λ_ _ _ _ _ _=>False
abbrev E0:XK:=λ_ _ _=>False
structure bb (K:f') (x qual:eS) (st:aas) (f:dn) (fd:hO):Prop where
 ex:∃(oc:cm) (od:Option dn) (kV doc pm:cm) (an:Option dn) (cdv ct:cm) (osl:Array (Option cm)),
  fd=adu x qual (nX st) (g9 st) (aQ st) .none kV doc pm an cdv ct/\K.lookup f=al {oc,od,.func fd,osl}/\ahd K cdv qual=bi
 kp:acF K (.ref f)=bi
section
variable{P:hZ}{w:nL}{K:f'}{mg:eS->Option cm}{base:nk}{X:Cx}{Ar:ow}{pins:List (dn×zI)}{σ:St}{H:Hp}{s:cA}{NB:List eS}{scope:aah}{s₂:cA}{E:cm->cA->Prop}
theorem bb.ok{x a:eS}{st:aas}{f:dn}{e:hO}{N d:List eS}{k:Nat}{sp:Sp}(F:bb K x a st f e)(S:br N d (aQ st))(len:∀vs H Q E,sp vs H Q E->vs.length=d.length)
 (c:∀(b:cm) (A:ow) (outer:List Env) (s:cA) (H:Hp) (vs:List V) (Q:VK) (E:XK),cF k (A.deeper<|abw a (aQ st) s.heap.objs.size f b)->sp vs H Q E ->
   ∃t,gu (eV bc P w K mg base N a (aQ st) f b A outer s H E).jt (g9 st) t/\t {nx:=λ_ j=>Q .aG j,rt:=Q} (start N vs) H):aV P w K mg base bc (k+1) f e d sp:=by
 let(oc,od,kV,doc,pm,an,b,ct,osl,rfl,lk,g):=F.ex;$(GX lk g S len λA outer s H vs Q E l i=>?_);let(t,h,q):=c b A outer s H vs Q E l i;$(⟨t,h.jt,q⟩)
def bb.binds{x a:eS}{st:aas}{f:dn}{g:hO}{d:List eS}(F:bb K x a st f g)
 (h:∀(kV b pm:cm) (e:Option dn) (c ct:cm) (us:List cm),us.length=d.length->aeF (adu x a (nX st) (g9 st) (aQ st) .none kV b pm e c ct) {us,[]}=pure (d.zip us)):Binds K g d []:=by
 let(oc,od,kV,b,pm,e,c,ct,osl,rfl,lk,hcd):=F.ex;$(.all<|h kV b pm e c ct)
def Q9{x a:eS}{st:aas}{f:dn}{h:cm}{i g:Option dn}{e:Array (Option cm)}{kV d pm b ct:cm}(l:K.lookup f=al {h,i,.func<|adu x a (nX st) (g9 st) (aQ st) .none kV d pm g b ct,e})
 (c:ahd K b a=bi)(k:acF K (.ref f)=bi):bb K x a st f (adu x a (nX st) (g9 st) (aQ st) .none kV d pm g b ct):={⟨h,i,kV,d,pm,g,b,ct,e,ρ,l,c⟩,k}
theorem pv(i:Nat){x:eS}{pos:u1}(b:X.N[i]?=al x:=by rfl)(c:bV X.env.scope x:=by first|$(adT ρ)|$(adS (adT ρ))|$(adS<|adS ρ))(hd:bz x:=by decide)
 (a:cB x:=by decide):PE X (.Name x pos) (uh i):=dU b c hd a
def aj(H a:Hp):Prop:=∀b o,H b=al o->a b=al o
def aj.refl(H):aj H H:=λ_ _ h=>h
def aj.trans (a:aj H d)(b:aj d e):aj H e:=λc o h=>b c o<|a c o h
abbrev G2(ifs:List hF)(env:Env):Sem Bool:=forIn ifs true λt ok =>
 if ok=bi then(aeE t env<|eval t env) >>= λb=>pure (.yield b)
 else pure (.yield ok)
abbrev p9:cm->cA->Prop:=λ_ _=>False
theorem Rl (W:Nat->cA->Prop)(turn:∀n c,W n c->gj (hM P w) Ar (aa2 b) (λd g=>match d with
   |none=>k (.ok .next) g
   | some u=>gj (hM P w) Ar (acU e b u)
     (λ_ o=>gj (hM P w) Ar (abL e env u)
      (λ_ p=>gj (hM P w) Ar (G2 ifs env)
       (λok h=>if ok=bi then gj (hM P w) Ar (eval elt env)
         (λy q=>gj (hM P w) Ar (call (.builtin "list.append") [a,y]) (λ_ r=>∃m,m<n/\W m r) p9 q) p9 h
        else∃m,m<n/\W m h) p9 p) p9 o) p9 g) p9 c)(t:Nat)(B:W t l):abu (hM P w) Ar (.compLoop (.ListComp elt [{e,f,ifs,0}] i j) 0 b a env) k l:=by
 $(codeAny_loop ρ W (λn c hw=>?_) t B);apply wpAny_noted;rw[compTurn_list];$(bg<|adB<|bg (z6 (turn n c hw) (λd g v=>?_) λ_ _ z=>z.elim));cases d with
 |none=>$(dr v)
 |some u =>
  $(bg (z6 v (λ_ o C=>?_) λ_ _ z=>z.elim));$(bg (z6 C (λ_ p D=>?_) λ_ _ z=>z.elim));$(bg (z6 D (λok h A=>?_) λ_ _ z=>z.elim));cases ok with
  |false=>$(dr (ail ρ A))
  |true=>$(bg<|bg (z6 A (λy q F=>?_) λ_ _ z=>z.elim));$(bg (z6 F (λ_ r G=>?_) λ_ _ z=>z.elim));$(dr<|dr<|ail ρ G)
theorem BV(env):∀(names:List (eS×ade)) (cs:List (eS×dn)),(∀y∈names,y.2=.free->∃c,env.cells.lookup y.1=al c) ->
  (∀x c,cs.lookup x=al c->env.cells.lookup x=al c) ->
  ∃cl:List (eS×dn),(forIn names cs (λ(x:eS×ade) (r:List (eS×dn))=>if(x.2==abX)=bi then(do let a <-cellOf env x.1;pure (ae1 ((x.1,a)::r)))else pure (ae1 r)):Sem (List<|eS×dn))=pure cl /\
   (∀x c,cl.lookup x=al c->env.cells.lookup x=al c)/\(∀x,(cs.lookup x).isSome=bi->(cl.lookup x).isSome=bi)/\∀y∈names,y.2=.free->(cl.lookup y.1).isSome=bi
 |[],cs,_,f=>{cs,⋯,f,λ_ h=>h,λ_ h=>by simp at h}
 | (n,k)::r,cs,l,f=>by
  let m:∀y∈r,y.2=.free->∃c,env.cells.lookup y.1=al c:=λy b=>l y<|fk _ b;ext(t:k=.free)
  .$$t;let(c,u):=l (n,.free) fm ρ;let o:∀x p,((n,c)::cs).lookup x=al p->env.cells.lookup x=al p:=by grind
   let(cl,q,g,d,i):=BV env r ((n,c)::cs) m o;$({cl,?_,g,λx v=>d x ?_,λy b j=>?_})
   .rw[acI];let e:cellOf env n=pure c:=by$$(cellOf);rw[u]
    simp?[if_true,e,pure_bind];$q
   .rw[aab];cases x==n<;>simp[v]
   let rfl||b:=eW.1 b
   .$(d _ (by simp[aab]))
   $(i y b j)
  let(cl,q,g,d,i):=BV env r cs m f;$({cl,?_,g,d,λy b j=>?_});simp!;let rfl||b:=eW.1 b;simp!;$(i y b j)
def Kp (h:∀y∈scope.names,y.2=.free->∃c,env.cells.lookup y.1=al c) :
  ∃cl,closureFor scope env=pure cl/\(∀x c,cl.lookup x=al c->env.cells.lookup x=al c)/\∀y∈scope.names,y.2=.free->(cl.lookup y.1).isSome=bi:=by
 let(cl,a,b,_,d):=BV env scope.names [] h<|λ_ _ e=>by simp at e
 $({cl,?_,b,d});dsimp[closureFor];simp?[<-a];simp?[bind_pure]
theorem tL [BEq a][LawfulBEq a]:∀{l:List (a×b)}{x:a}{k:b},l.lookup x=al k->(x,k)∈l
 |[],_,_,h=>by simp at h
 | (n,k')::r,x,k,h=>by
  rw[aab]at h;cases c:x==n with
  |true=>simp!
  |false=>rw[c]at h;$(fk _<|tL h)
theorem B6(env:Env):∀(names:List (eS×ade)) (x:eS),
  (names.map λ(n,k)=>if(k==abX&&env.scope.kind==.function&&env.kindOf n==some .cell)then(n,afz)else(n,k)).lookup x =
   (names.lookup x).map λk=>if(k==abX&&env.scope.kind==.function&&env.kindOf x==some .cell)then afz else k
 |[],_=>rfl
 | (n,k)::r,x=>by
  rw[hH];cases b:x==n with
  |true =>
   let e:x=n:=by$$$$b
   $$e;ext(a:(k==abX&&env.scope.kind==.function&&env.kindOf x==some .cell)=bi)
   .simp?[a,if_true,aab,beq_self_eq_true,v3]
   simp?[a,if_false,aab,beq_self_eq_true,v3,kB]
  |false =>
   let c:=B6 env r x;ext(a:(k==abX&&env.scope.kind==.function&&env.kindOf n==some .cell)=bi)
   .simp?[a,if_true,aab,b];$c
   simp?[a,if_false,aab,b,kB];$c
def M2 (h:scope.names.lookup x=some .free):(adZ scope env).names.lookup x=some .cell\/(adZ scope env).names.lookup x=some .free:=by
 delta adZ;simp?[B6,h];simp?[v3];split
 .$(ι ρ)
 $(τ ρ)
theorem Vd (a:∀y∈scope.names,y.2≠.cell)(h:(adZ scope env).names.lookup x=some .cell\/(adZ scope env).names.lookup x=some .free):scope.names.lookup x=some .free:=by
 unfold adZ at h;rw[B6]at h;cases e:scope.names.lookup x with
 |none=>simp!
 |some k=>let hm:=a _<|tL e;grind
def cy(X:Cx)(NB:List eS)(scope:aah)(cl:List (eS×dn))(C:dn)(a:cA)(H:Hp)(b:List dn):Cx :=
 {X with N:=NB,dj:=a,uY:=H,env:=compEnvC scope cl C X.env,outer:=X.stack,ex:=b,fn:=λ_=>false,pn:=[],xe:=λ_ _=>False}
def fV(caps:List (Option Nat))(σ:St):St:=caps.map λo=>o.bind λj=>(σ[j]?).join
def iG(N NB:List eS)(a:aah)(caps:List (Option Nat)):Bool :=
 caps.length==NB.length&&(hE caps.length).all λi=>match caps[i]? with
  |some (al j)=>(match NB[i]?,N[j]? with|some x,al y=>x==y&&a.names.lookup x==some .free|_,_=>false)
  |_=>true
def Tf (h:iG N NB a caps=bi):(fV caps σ).length=NB.length:=by delta iG at h;rw[e8]at h;simp[fV];$$$$(h.1)
theorem Na{N NB:List eS}{b:aah}{σ:St}{caps:List (Option Nat)}{i:Nat}{x:eS}{v:V}(h:iG N NB b caps=bi)(f:NB[i]?=al x)(a:(fV caps σ)[i]?=al (al v)) :
  b.names.lookup x=some .free/\∃j:Nat,N[j]?=al x/\σ[j]?=al (al v)/\caps[i]?=al (al j):=by
 unfold iG at h;rw[e8]at h;unfold fV at a;rw[dk]at a;cases e:caps[i]? with
 |none=>rw[e]at a;$(nO a)
 |some o =>
  rw[e]at a;cases o with
  |none=>$$$a
  |some j =>
   let c:=(cn.1 e).1;let q:=kz.1 h.2 i<|hI.2 c;rw[e]at q;dsimp at q;rw[f]at q;cases d:N[j]? with
   |none=>simp!
   |some y =>
    rw[d]at q;simp?[e8]at q;let g:x=y:=by$$$$(q.1)
    $$g;$({by$$$$(q.2),j,d,?_,rfl});simp at a;cases k:σ[j]? with
    |none=>rw[k]at a;$(nO a)
    |some z=>simp!
structure jW (sc:aah) (scope:aah):Prop where
 kind:scope.kind=.function
 Eg:∀y∈scope.names,y.2≠.cell
 loc:∀y∈scope.names,y.2=.local->scope.names.lookup y.1=some .local
 free:∀y∈scope.names,y.2=.free->sc.names.lookup y.1=some .cell\/sc.names.lookup y.1=some .free
def Le (I:Inv X pins σ H s)(S:jW X.env.scope scope)(f:iG X.N NB scope caps=bi)(a:∀x c,cl.lookup x=al c->X.env.cells.lookup x=al c)(t:∀y∈scope.names,y.2=.free->(cl.lookup y.1).isSome=bi)(M:d.Ns s.heap.objs.size λ_=>am)(keep:∀b o,s.heap.get? b=al o->d.get? b=al o)(g:∀b∈L,jY X pins H b/\b<s.heap.objs.size) :
  Inv (cy X NB scope cl s.heap.objs.size s H L) [] (fV caps σ) H {s with heap:=d,toks:=tk}:=by
 let hC:X.env.locals<s.heap.objs.size:=I.lt;$(⟨{I.ok.mod,?_,I.ok.glob,I.ok.blt,eT _,λx y c B C=>?_,λx T=>?_,λx c h=>?_,I.ok.hd,I.ok.frames,ι ρ,λb n=>?_,λb o e=>?_,n5 I.ok.jG I.sz,λb o e n=>?_,λb n hm=>?_,I.stack,I.A5},
  ρ,I.bare,Un.kept keep,{_,M,λi x v B C h3=>?_},λx c h=>?_,I.ao.fresh<|eT _,λx c h=>?_,λp U=>absurd (show p∈([]:List (dn×zI))from U) ⋯,I.ao.kept keep,Tf f⟩)
 .$S.kind
 .$(I.ok.inj x y c (a x c B)<|a y c C)
 .let q:=Vd S.Eg T;$(W0.1<|t _ (tL q) ρ)
 .$(absurd h (by show¬(false=bi);simp))
 .let((O,D,F,G,J,Q),lt):=g b n;$({gD lt,λx c e=>J x c<|a x c e})
 .$(I.bs b o e)
 .let((O,D,F,G,J,Q),lt):=g b n;let z||z:=G
  .$(I.ok.mB b o e z)
  $(absurd (iN (iN (fj e) I.ok.jG) z)<|uz _)
 .let((O,D,F,G,J,Q),lt):=g b n;let z||z:=eW.1 (I.tY b hm)
  .$(D z)
  $(F z)
 .let(q,j,V,W,_):=Na f B C;let(m,hn,hl):=I.loc;let Y:=S.free _ (tL q) ρ;let Z:bV X.env.scope x:=τ Y;let(u,r,l):=hl j x v V W Z;$({u,r,τ {M2 q,?_}});let(c,R):=W0.1<|t _ (tL q) ρ;$({c,R,?_});let(k,_)||(_,c',A,z):=l
  .let k:X.env.scope.names.lookup x=some .local:=k;simp!
  rw[a x c R]at A;$$$$$$A;let(o,ho,hd):=z;$({o,keep c o ho,hd})
 .let(v,o,ho,hd):=I.cell x c<|a x c h;$({v,o,keep c o ho,hd})
 $(I.fA x c<|a x c h)
def PF(X:Cx)(ifs:List hF)(t:TT):Prop :=
 ∀(pins:List (dn×zI)) (s:cA) (σ:St) (H:Hp) (Q:Bool->Hp->Prop),Inv X pins σ H s->t σ H Q ->
  gj (hM X.prog X.w) X.A (G2 ifs X.env) (TP X pins σ Q) X.xe s
def LU:TT:=λ_ H Q=>Q true H
def Lh:PF X [] LU:=λ_ _ _ H _ I h=>wpAny_tests_nil ⟨H,I,h⟩
def Vt (h:PT X c t):PF X [c] t:=λpins s σ H Q I a=>wpAny_tests_one<|h pins s σ H Q I a
def xA(caps:St->St)(l:TI)(g:TG)(tc:TT)(te:TE):TE:=λσ H Q=>l σ H λJ h=>∀D,h D=am->∃W:Nat->Nat->St->Hp->Prop,
 (∃m,W 0 m (caps σ)<|upd h D<|.L [])/\∀i m e c,W i m e c ->
  (J.stop i c/\Q (.ref D) c)\/(J.go i c/\∀x f,J.nZ i c x f->g x e f λa n=>tc a n λb j =>
   if b=bi then te a j λy k=>∃ys,k D=al (.L ys)/\ys.length<c6/\∃d,d<m/\W (i+1) d a (upd k D<|.L<|ys++[y])
   else∃d,d<m/\W (i+1) d a j)
theorem JT{caps:List (Option Nat)}{elt iter tg:hF}{ifs:List hF}{pos:u1}{it:dn}{f:List dn}{V:Nat->nk->Prop}{J:It}{j:Hp}{g:TG}{tc:TT}{te:TE}{cl:List (eS×dn)}{Q:VK}{RR:cm->dn->adL->cA->Prop}
 (I2:Inv X pins σ j s₂)(T:Turn X.prog X.w X.K tg J f it V)(YL:V 0 s₂.heap)(f2:∀b∈f,jY X pins j b)(hc:X.calm=bi)(S:jW X.env.scope scope)(YW:iG X.N NB scope caps=bi)
 (YM:∀x c,cl.lookup x=al c->X.env.cells.lookup x=al c)(Y7:∀y∈scope.names,y.2=.free->(cl.lookup y.1).isSome=bi)
 (h:∀(cl:List (eS×dn)) (C:dn) (a:cA) (H:Hp) (f:List dn),PG (cy X NB scope cl C a H f) tg g/\PF (cy X NB scope cl C a H f) ifs tc/\PE (cy X NB scope cl C a H f) elt te)
 (hW:∀D,j D=am->∃W:Nat->Nat->St->Hp->Prop,(∃m,W 0 m (fV caps σ)<|upd j D<|.L [])/\∀i m G k,W i m G k ->
   (J.stop i k/\Q (.ref D) k)\/(J.go i k/\∀x YN,J.nZ i k x YN->g x G YN λO j=>tc O j λb H3 =>
    if b=bi then te O H3 λy H4=>∃ys,H4 D=al (.L ys)/\ys.length<c6/\∃F,F<m/\W (i+1) F O (upd H4 D<|.L<|ys++[y])
    else∃F,F<m/\W (i+1) F O H3))
 (Y':∀D C k s' m,Inv X pins σ k s'->s'.heap.Ns C m->jY X pins k C->Q (.ref D) k->RR (.ref D) C (.ok .next) s') :
  gj (hM X.prog X.w) X.A (newList []) (λYO a=>gj (hM X.prog X.w) X.A (newFunctionEnv scope X.env.globals cl [] X.env.qual none .none<|al X.env) (λYB L =>
   abu (hM X.prog X.w) X.A (.compStart (.ListComp elt [{tg,iter,ifs,0}] scope pos) 0 (.ref it) YO {YB with scope:=adZ scope X.env}) (RR YO YB.locals) L) E a) E s₂:=by
 $(rp<|wpAny_newFunctionEnv S.Eg (by ext y hy;simp at hy) (λl t B=>?_) S.kind);let I3:Inv X pins σ (upd j s₂.heap.objs.size<|.L []) {s₂ with heap:=s₂.heap.push {cls:=.type "list",data:=.seq ([]:List cm).toArray},toks:=s₂.toks} :=
  I2.xB .nil (nT _)
 let(W,(m0,w0),hW):=hW s₂.heap.objs.size I2.fresh;generalize YC:({s₂ with heap:=s₂.heap.push {cls:=.type "list",data:=.seq ([]:List cm).toArray},toks:=s₂.toks}:cA)=a at I3;let YD:=congrArg (·.heap) YC;let et3:=congrArg (·.toks) YC;let hsz:s₂.heap.objs.size<a.heap.objs.size:=by rw[<-YD,abY];$(aaU _)
 (try rw[YD]at t B)
 let keep:∀b o,a.heap.get? b=al o->l.get? b=al o:=λb o e=>B.extBut b o (gD<|fj e)<|eu _ e;let Za:∀b o,s₂.heap.get? b=al o->a.heap.get? b=al o:=λb o e=>by rw[<-YD];$(eu _ e)
 let R:∀b∈f,jY X pins (upd j s₂.heap.objs.size<|.L []) b/\b<a.heap.objs.size:=λb h=>by let(o,e,_):=T.obj _ _ YL b h;let lt:=fj e;$({{by rw[aA (gD lt)];$((f2 b h).1),(f2 b h).2},aaT lt hsz})
 let Zb:=T.keep _ _ _ YL λb _ o e=>keep b o<|Za b o e;let Zc:=t;let IB:Inv (cy X NB scope cl a.heap.objs.size a (upd j s₂.heap.objs.size<|.L []) f) [] (fV caps σ) (upd j s₂.heap.objs.size<|.L []) {a with heap:=l,toks:=a.toks+([]:List (eS×cm)).length} :=
  Le I3 S YW YM Y7 Zc keep R
 let uE:V 0 ({a with heap:=l,toks:=a.toks+([]:List (eS×cm)).length}:cA).heap:=Zb;generalize ({a with heap:=l,toks:=a.toks+([]:List (eS×cm)).length}:cA)=L at IB uE ⊢;let YE:∀{k:Hp},(∀b∈f,k b=am)->∀b∈f,jY (cy X NB scope cl a.heap.objs.size a (upd j s₂.heap.objs.size<|.L []) f) [] k b:=λhn b h=>by
  let((f0,f1,YQ,f3,f4,f5),lt):=R b h;$({hn b h,gD lt,λhm=>?_,ι h,λx c e=>f4 x c<|YM x c e,λp hp=>absurd (show p∈([]:List (dn×zI))from hp) ⋯});let z||z:=eW.1 (I2.tY b hm)
  .$(f1 z)
  $(YQ z)
 let(bG,bF,bE):=h cl a.heap.objs.size a (upd j s₂.heap.objs.size<|.L []) f;let YF:abu (hM X.prog X.w) X.A (.compLoop (.ListComp elt [{tg,iter,ifs,0}] scope pos) 0 (.ref it) (.ref s₂.heap.objs.size)<|compEnvC scope cl a.heap.objs.size X.env) (RR (.ref s₂.heap.objs.size) a.heap.objs.size) L:=by
  $(Rl (λn s'=>∃i G k,Inv (cy X NB scope cl a.heap.objs.size a (upd j s₂.heap.objs.size<|.L []) f) [] G k s'/\V i s'.heap/\(∀b∈f,k b=am)/\W i n G k) ?_ m0
   {0,_,_,IB,uE,λb h=>(R b h).1.1,w0})
  ext n s5 ⟨i,U,H5,I5,YR,YS,w5⟩;let(stop,q)||(go,step):=hW i n U H5 w5
  .$(aI (T.done (cy X NB scope cl a.heap.objs.size a (upd j s₂.heap.objs.size<|.L []) f) ρ ρ ρ hc i [] s5 U H5 (λ_ _=>False) I5 (YE YS) YR stop) λr s6 h=>?_);let(hr,Y):=h;$$hr;let(m,hn,_):=Y.loc;$(Y' _ _ H5 s6 m ?_ hn (I3.lj (eT _) Y.free) q);$(I3.Ew Y.os Y.base Y.ao Y.bare λb h=>?_);let((f0,f1,YQ,f3,f4,f5),lt):=R b h;$(⟨f3,f1,f4,f5⟩)
  $(aI (T.item (cy X NB scope cl a.heap.objs.size a (upd j s₂.heap.objs.size<|.L []) f) ρ ρ ρ hc i [] s5 U H5 (λ_ _=>False) I5 (YE YS) YR go) λr s6 h=>?_);let(u,hr,h6):=h;$$hr;$(aI h6 λ_ s7 h=>?_);let(x,H7,I7,r7,y7,YG,Zm):=h;let Zn:=I7.pinned (YE Zm)<|T.obj _ _ YG;let back:∀{YH:St}{M:Hp}{Z:cA},Inv (cy X NB scope cl a.heap.objs.size a (upd j s₂.heap.objs.size<|.L []) f) ([]++tQ f s7.heap) YH M Z ->
    Inv (cy X NB scope cl a.heap.objs.size a (upd j s₂.heap.objs.size<|.L []) f) [] YH M Z/\V (i+1) Z.heap/\∀b∈f,M b=am:=λ{YH M Z} I9=>by
   $({I9.wB,T.keep _ _ _ YG λb h o e=>(I9.pin (b,o)<|r0 _<|r0 _<|wD h e).1,λb h=>?_});let(o,e,d):=T.obj _ _ YG b h;$((I9.pin (b,o)<|r0 _<|r0 _<|wD h e).2.1)
  $(aI (bG _ s7 U H7 x u _ Zn r7<|step x H7 y7) λ_ s8 h=>?_);let(I,H8,I8,q8):=h;$(aI (bF _ s8 I H8 _ I8 q8) λok Z h=>?_);let(M,I9,q9):=h;cases ok with
  |false=>let(F,hm,w9):=q9;let(a1,a2,a3):=back I9;$({F,hm,i+1,I,M,a1,a2,a3,w9})
  |true=>$(aI (bE _ Z I M _ I9 q9) λv Zp h=>?_);let(y,YT,Zq,Zr,ys,hD,hz,F,hm,Zt):=h;$(aI (CU _ Zp I YT (.ref s₂.heap.objs.size) [y] (.ref s₂.heap.objs.size) [v] (λ_ YU=>YU=upd YT s₂.heap.objs.size (.L<|ys++[y])) Zq ρ (.cons Zr .nil) {_,ys,y,ρ,ρ,hD,hz,ρ}) λ_ s11 h=>?_);let(_,YU,Zu,_,Zv):=h;$$Zv;let(a1,a2,a3):=back Zu;$({F,hm,i+1,I,_,a1,a2,a3,Zt})
 $(codeAny_compStart_list YF<|T.self _ 0 _ _ _ uE YF)
end
section
variable{X:Cx}{NB:List eS}{caps:List (Option Nat)}{scope:aah}{elt iter tg:hF}{ifs:List hF}{pos:u1}{wi:TI}{g:TG}{tc:TT}{te:TE}{P:hZ}{w:nL}{H:Hp}{h h':nk}{a:dn}{o:HO}{pins:List (dn×zI)}{σ:St}{s:cA}
def Kd(z:X.calm=bi)(S:jW X.env.scope scope)(i:iG X.N NB scope caps=bi)(B:PI X tg iter wi)
 (j:∀(cl:List (eS×dn)) (C:dn) (c:cA) (H:Hp) (d:List dn),PG (cy X NB scope cl C c H d) tg g/\PF (cy X NB scope cl C c H d) ifs tc/\PE (cy X NB scope cl C c H d) elt te)
 (hs:∀x,um iter X.env x=pure x:=by ext _;rfl):PE X (.ListComp elt [{tg,iter,ifs,0}] scope pos) (xA (fV caps) wi g tc te):=by
 ext pins s σ H Q I h;let(cl,f,p,r):=Kp<|λy E k=>I.ok.has y.1<|S.free y E k;$(ae3 ρ hs f S.kind S.loc (aI (B pins s σ H _ I h) λxv s₁ l=>aI l λitv s₂ n=>?_));let(it,d,tn,J,H2,rfl,F,T,t,G,K):=n;apply JT F T t G z S i p r j K;ext D C L s' m M O k q;$({m,O,λh' v=>{.ref D,L,?_,ρ,q}});let(R,U,f2',V,W,Y):=k;$(M.turned (λb o j e=>(v.2 b j).trans e) R U V W Y)
def Uk (hN:X.N.Nodup)(E:X.N[i]?=al y)(l:Loc X.env.scope y)(hc:X.calm=bi)(S:jW X.env.scope scope)(n:iG X.N NB scope caps=bi)(hi:PI X tg iter wi)(p:∀(cl:List (eS×dn)) (C:dn) (c:cA) (H:Hp) (j:List dn),PG (cy X NB scope cl C c H j) tg g/\PF (cy X NB scope cl C c H j) ifs tc/\PE (cy X NB scope cl C c H j) elt te)(F:z8 (.ListComp elt [{tg,iter,ifs,0}] scope pos) (al<|.Name y py) d.line X.env=pure true)(hs:∀x,um iter X.env x=pure x:=by ext _;rfl)(r:X.fn y=bi\/X.env.scope.names.lookup y=some .local:=by first|$(ι ρ)|$(τ ρ)|assumption) :
  PS X (.Assign [.Name y py] (.ListComp elt [{tg,iter,ifs,0}] scope pos) d) (yN (xA (fV caps) wi g tc te)<|wA i):=by
 ext pins s σ H D I h;let(cl,k,G,K):=Kp<|λy l r=>I.ok.has y.1<|S.free y l r;rw[exec_Assign_Name_used _ _ _ _ F];$(bg<|adB<|bg ?_);show gj _ X.A (do let _ <-comprehension (.ListComp elt [{tg,iter,ifs,0}] scope pos) scope X.env _ (newList []) false (eval iter X.env) (al<|abL (.Name y py) X.env)) _ _ s;$(bg (z6 (ae3 ρ hs k S.kind S.loc (aI (hi pins s σ H _ I h) λxv s₁ t=>aI t λitv s₂ u=>?_)) (λ_ s' hq=>dr<|dr hq) λ_ _ e=>e));let(it,j,tn,J,H2,rfl,I2,T,L,f2,hW):=u;apply JT (Q:=λx H1=>wA i x σ H1 D.nx) I2 T L f2 hc S n G K p hW;ext O C H' s' m I' hn R q;let(f0,U,f2',f3,V,f5):=R;$(agL<|Jk (v:=.ref O) I' hN E l ρ (λW Y f=>?_) r);let(a,f,ha):=f;let Z:C≠a:=by
  ext rfl;let z||z:=ha
  .$(U z)
  $(V _ _ z ρ)
 $({m,hn.sameBut f Z,λh' B=>?_});$({_,H',Y.turned (λb o p e=>(B.2 b p).trans e) f0 U f3 V f5,q})
theorem cH.alive(x:cH P w H h a o):∃u,h.get? a=al u:=by
 cases o with
 |L xs=>let(z,its,n,r,e):=x;$({_,e})
 |U xs=>let(z,its,r,ob,e,c):=x;$({_,e})
 |dK kvs=>let(z,y,vs,r,ob,b,ep,e,c):=x;$({_,e})
 |dT kvs=>let(z,y,xs,r,ob,b,ep,e,c):=x;$({_,e})
 |set S n=>let(ob,b,ep,t,e,c):=x;$({_,e})
 |ins C dx fs=>let(d,z,ne,e,i,_):=x;$({_,e})
 |O y=>$x
 |xd fs=>let(i,(od,b,ep,e,c),r):=x;$({_,e})
 |rV lo hi=>let(t,u,v,e):=x;$({_,e})
 |bA ob u=>let(e,q):=x;$({_,e})
 |nj ps=>$({_,x})
 |met f y=>$({_,x})
 |ext φ=>let(p,e,st):=x;$e
def cg.tracked(x:cg P w H h)(k:∀b u,H b≠am->h.get? b=al u->h'.get? b=al u):cg P w H h':=λc ob e =>
 (x c ob e).gH (λb u d q=>k b u (by
  let z||z:=d
  .rw[z,e];simp
  rw[z];simp) q) (λ_ q=>q) λ_ _ q=>q
theorem cg.dead(x:cg P w H h)(e:h.get? a=am):H a=am:=by
 cases q:H a with
 |none=>rfl
 |some u=>let(v,z):=(x a u q).alive;rw[e]at z;$(nO z)
structure Flt (av:List dn) (H:Hp) (h₀:nk) (a:dn) (cls fl:cm) (h:nk):Prop where
 ex:∃(a0:cm) (T:dn) (oe oT:zI) (vs ts:Array cm),h.get? a=al oe/\oe.cls=cls/\oe.data=.fields vs/\vs[0]?=al a0/\vs[1]?=al (.ref T)/\T≠a/\h.get? T=al oT/\oT.data=.fields ts/\ts[3]?=al fl/\H T=am/\h₀.get? T=am/\T∉av
 na:H a=am
 nw:h₀.get? a=am
 nv:a∉av
def Inv.Jw{h':nk}{tk:Nat}{ch:List dn}(I:Inv X pins σ H s)
 (j:∀b∈ch,H b=am/\X.dj.heap.get? b=am/\(∀o,s.heap.get? b=al o->∃vs,o.data=.fields vs)/\∀p∈X.pn++pins,p.1≠b)
 (keep:∀b o,b∉ch->b∉dF X.stack->s.heap.get? b=al o->h'.get? b=al o)
 (slot:∀b o,b∉ch->b∈dF X.stack->s.heap.get? b=al o->∃sl,h'.get? b=al {o with slots:=sl}):Inv X pins σ H {s with heap:=h',toks:=tk}:=by
 let any:∀b o,b∉ch->s.heap.get? b=al o->∃sl,h'.get? b=al {o with slots:=sl}:=λb o f e=>by
  ext(z:b∈dF X.stack)
  .$(slot b o f z e)
  $({o.slots,keep b o f z e})
 let y:∀b o,X.dj.heap.get? b=al o->b∉ch:=λb o e f=>by rw[(j b f).2.1]at e;$(nO e)
 let J:∀b o,X.dj.heap.get? b=al o->b≠X.env.locals:=λb o e=>gD<|iN (fj e) I.ok.above;let kW:∀b,b∈dF X.stack->b≠X.env.locals->b∈X.fs:=λb f hl=>by
  let z||z:=eW.1 (I.tY b f)
  .$(absurd z hl)
  $z
 let D:∀x c,X.env.cells.lookup x=al c->c∉ch:=λx c e f=>by let(v,o,ho,hd):=I.cell x c e;let(vs,z):=(j c f).2.2.1 o ho;rw[hd]at z;lk
 let t:∀x c,X.env.cells.lookup x=al c->∀v,s.heap.IsCell c v->h'.IsCell c v:=λx c e v ⟨o,ho,hd⟩=>by let(sl,q):=any c o (D x c e) ho;$({_,q,hd})
 let(m,K,hl):=I.loc;let(L,O,ep,E,F,Q):=K;let G:X.env.locals∉ch:=λf=>by let(vs,z):=(j _ f).2.2.1 L E;rw[F]at z;lk
 let(slL,R):=any _ L G E;$({I.ok,I.os,I.bare,{λb o e n f A=>?_,λb o e n f A=>?_,I.base.free,λb o e A=>?_,I.base.iS,I.base.hX,I.base.iY},{m,{_,O,ep,R,F,Q},λi x v B C S=>?_},λx c e=>?_,I.free,I.fA,λp M=>?_,?_,I.len})
 .$(keep b o (y b o e) (λz=>f<|kW b z<|J b o e)<|I.base.keep b o e n f A)
 .let(sl,B):=I.base.slot b o e n f A;let(N,C):=any b _ (y b o e) B;$(⟨N,C⟩)
 .let(T,B):=I.base.there b o e A;let(sl,C):=any b T (y b o e) B;$({_,C})
 .let(u,r,l):=hl i x v B C S;$({u,r,?_});let l||(k,c,e,z):=l
  .$(ι l)
  $(τ {k,c,e,t x c e _ z})
 .let(v,z):=I.cell x c e;$({v,t x c e v z})
 .let(e,n,ne,nf,d):=I.pin p M;$({keep p.1 p.2 (λz=>(j _ z).2.2.2 p M ρ) (λz=>nf<|kW _ z ne) e,n,ne,nf,d})
 refine I.ao.tracked λb u f e=>keep b u (λz=>f (j b z).1) (λz=>f<|I.A5 b z) e
abbrev rh(X:Cx)(pins:List (dn×zI)):List Addr:=(X.pn++pins).map (·.1)
theorem Inv.wz (I:Inv X pins σ H s)(F:Flt (rh X pins) H X.dj.heap a cls fl s.heap)(t:X.ex=[]) :
  ∃a0 B,B.StaysIn s.heap/\B.get? a=am/\s.heap.FunFrames B X.stack/\s.heap.TracedAtW B a cls a0 fl /\
   ∀(h':nk) (tk:Nat) (i:cm),B.StaysIn h'->h'.TracedAtW B a cls a0 i->s.heap.UpToSlots h'->Inv X pins σ H {s with heap:=h',toks:=tk}/\Flt (rh X pins) H X.dj.heap a cls i h':=by
 let((a0,T,oe,oT,vs,ts,u,e2,v,e4,e5,e6,x,A,e9,C,D,E),na,G,J):=F;let k:=I.stack;let nfr:∀{b:dn}{o:zI}{us:Array cm},s.heap.get? b=al o->o.data=.fields us->b∉dF X.stack:=λ{b o us} q d f=>by let(_,K,L,n):=k.mem f;rw[q]at L;$$$$$$L;$(n _ d)
 let M:∀env∈X.stack,∀b,env.frame=al b->b∈a::T::dF X.stack:=λenv he b f=>fk _<|fk _<|pz.2 ⟨env,he,f⟩;$({a0,agu s.heap (a::T::dF X.stack),λb o q=>ae7 _ q,aew _ fm,agv k M,{oe,vs,T,oT,ts,u,⟨e2,e4⟩,v,e5,aew _<|fk _ fm,e6,x,A,e9},?_});ext h' tk i hB tr up;let keep:∀b o,b∉[a,T]->b∉dF X.stack->s.heap.get? b=al o->h'.get? b=al o:=λb o l m q=>by
  $(hB b o (acv _ q λz=>?_));let z||z:=eW.1 z
  .$(l (by simp[z]))
  let z||z:=eW.1 z
  .$(l (by simp[z]))
  $(m z)
 let j:∀b,b∉rh X pins->∀p∈X.pn++pins,p.1≠b:=λb f p r z=>f<|z ▸ abO r;$({I.Jw (λb f=>?_) keep (λb o l m q=>up b o q (k.mem m |>.2.elim λK z=>by rw[z.1]at q;$$$$$$q;$(z.2))),?_})
 .let z||z:=eW.1 f
  .$$z;$({na,G,λo q=>by rw[u]at q;$$$$$$q;$({_,v}),j _ J})
  let z:b=T:=by$$$$z
  $$z;$({C,D,λo q=>by rw[x]at q;$$$$$$q;$({_,A}),j _ E})
 let(N,O,c,Q,R,f1,(f2,f4),f3,f5,S,U,V,Y,f9):=tr;let hT:s.heap.get? c=am\/c=T:=by
  cases q:s.heap.get? c with
  |none=>$(ι ρ)
  |some o =>
   ext(z:c=T)
   .$(τ z)
   ext(Z:c∈dF X.stack)
   .let(_,o2,q2,n):=k.mem Z;let(sl,q3):=up c o2 q2 n;rw[V]at q3;$$$$$$q3;$(absurd Y<|n _)
   let:=acv (a::T::dF X.stack) q (by
    ext y;let y||y:=eW.1 y
    .$(U y)
    let y||y:=eW.1 y
    .$(z y)
    $(Z y))
   rw[S]at this;$(nO this)
 $({{a0,c,N,Q,O,R,f1,f2,f3,f4,f5,U,V,Y,f9,?_},na,G,J});let q||q:=hT
 .$({I.ao.dead q,?_,λz=>?_})
  .cases y:X.dj.heap.get? c with
   |none=>rfl
   |some o=>let(K,y'):=I.base.there c o y (by rw[t];simp);rw[q]at y';$(nO y')
  let(p,r,e):=ae.1 z;let:=(I.pin p r).1;rw[e,q]at this;$(nO this)
 $$q;$(⟨C,D,E⟩)
end
def fU(P:hZ)(w:nL):jq:=λouter H s E e s'=>∃a cls b,e=.ref a/\s'.os=s.os/\acS s'.gens/\Un (dF outer) [] H b s.heap s'.heap/\cg P w b s'.heap/\Flt [] b s.heap a cls .none s'.heap/\E cls (al a) b
def pG(X:Cx)(c:St)(cls:cm)(a:dn)(H:Hp):Prop:=∀(b:List (dn×zI)) (s:cA),Inv X b c H s->Flt (rh X b) H X.dj.heap a cls .none s.heap->X.xe (.ref a) s
def Bo(X:Cx)(c:St)(C:dn)(H:Hp):Prop:=∀(b:List (dn×zI)) (s:cA) (h':nk) (a:dn) (vs:List cm),Inv X b c H s->Heap.MadeExcOf s.heap h' a (.ref C) vs->X.xe (.ref a) {s with heap:=h'}
def Flt.weak (F:Flt e H h₀ a cls fl h)(k:∀b,b∉e->h₀.get? b=am->b∉d/\c.get? b=am):Flt d H c a cls fl h:=by let((a0,T,l,m,vs,n,o,p,q,r,s,t,u,v,w,x,f,g),na,i,j):=F;$({{a0,T,l,m,vs,n,o,p,q,r,s,t,u,v,w,x,(k T g f).2,(k T g f).1},na,(k a j i).2,(k a j i).1})
section
variable{P:hZ}{w:nL}{K:f'}{mg:eS->Option cm}{base:nk}{N:List eS}{qual:eS}{scope:aah}{f:dn}{cd:cm}{A:ow}{outer:List Env}{s:cA}{H:Hp}{E:XK}{σ:St}{cls:cm}{a C:dn}{H1:Hp}
def Tj(e:E cls (al a) H1):pG (eV (fU P w) P w K mg base N qual scope f cd A outer s H E) σ cls a H1:=by ext pins c I F;let(a0,B,g,d,h,tr,nx):=I.wz F ρ;$(wpAny_leaves_onW I.ok.frames ρ ⟨g,d,h,tr⟩ λh' fl up=>?_);let(J,i):=nx h' c.toks .none fl.1 fl.2.2.2 up;$({a,cls,H1,ρ,J.os,J.bare,J.base,J.ao,i.weak λb _ j=>{⋯,j},e})
theorem WW(G:∀a,E (.ref C) (al a) H1):Bo (eV (fU P w) P w K mg base N qual scope f cd A outer s H E) σ C H1:=by
 ext i c h' a vs I made;let j:=I.stack;let k:∀env∈(eV (fU P w) P w K mg base N qual scope f cd A outer s H E).stack,∀b,env.frame=al b->b∈dF (eV (fU P w) P w K mg base N qual scope f cd A outer s H E).stack:=λenv M b d=>pz.2 ⟨env,M,d⟩;let l:=agv j k;let e:∀b,c.heap.get? b=am->s.heap.get? b=am:=λb q=>by
  cases y:s.heap.get? b with
  |none=>rfl
  |some o=>let(O,m):=I.base.there b o y (by simp[eV]);rw[q]at m;$(nO m)
 $(wpAny_leaves_madeW I.ok.frames ρ (λb o q=>ae7 _ q) l made λp t fl U tn up=>?_);let g:=(agP made.keeps).trans up;let J:Inv (eV (fU P w) P w K mg base N qual scope f cd A outer s H E) i σ H1 {c with heap:=p,toks:=c.toks}:=by$(I.Jw (ch:=[]) (λb d=>absurd d ⋯) (λb o _ d q=>fl.1 b o<|acv _ q d) λb o _ d q=>g b o q ?_);let(_,O,r,n):=j.mem d;rw[q]at r;$$$$$$r;$n
 $({a,.ref C,H1,ρ,J.os,J.bare,J.base,J.ao,?_,G a});let(Q,u,T,R,S,U,(V,X),Y,Z,v,f6,x,B,f9):=fl.2.2.2;let D:c.heap.get? T=am:=by
  cases q:c.heap.get? T with
  |none=>rfl
  |some o =>
   ext(z:T∈dF (eV (fU P w) P w K mg base N qual scope f cd A outer s H E).stack)
   .let(_,o2,q2,n):=j.mem z;let(sl,F):=g T o2 q2 n;rw[x]at F;$$$$$$F;$(absurd B<|n _)
   let:=acv _ q z;rw[v]at this;$(nO this)
 $({{_,T,Q,R,u,S,U,V,Y,X,Z,f6,x,B,f9,I.ao.dead D,e T D,⋯},I.ao.dead made.new,e a made.new,⋯})
end
section
variable{X:Cx}{pins:List (dn×zI)}{σ:St}{H:Hp}{s:cA}
def TN{K:f'}{h:nk}{C:dn}{b:List cm}{a:String}(k:K.In h)(q:aep K C b a=bi) :
  ∃bm N nm c bs hd sn sub ab col dd k0 k1 k2 k3 k5 mN,h.get? C=al (excClassObj nm c C N bs bm hd sn sub ab col dd k0 k1 k2 k3 k5 a)/\h.Ns N mN/\mN "__init__"=am/\OwnTail h b bm:=by
 delta aep at q;$$$$$q
 case h_2=>lk
 case h_1 dd cd sl ho =>
  split at q
  case h_2=>lk
  case h_1 C' bm k0 k1 k2 k3 n k5 hm hs =>
   simp?[e8,e8,e8,e8]at q;let(((((f,g),i),o),d),j):=q;let p:C'=C:=by$$$$f
   let r:n=a:=by$$$$g
   let l:cd.hasDel=bn:=by$$$$i
   let m:=beq_iff_eq.1 j;clear f g i j;subst p r;let(nm,bs,mro,ns,c,hd,sn,sub,ab,col,del):=cd;simp? at hm l d m;subst hm l;let e:sl=#[k0,k1,k2,k3,al<|.builtin n,k5]:=by
    cases sl;simp? at hs;rw[hs]
   subst e;$({bm,ns,nm,c,bs,hd,sn,sub,ab,col,dd,k0,k1,k2,k3,k5,_,k _ _ ho,.of_isNs<|W.isNs_of_in k d,W.nsMap_none_of_in k d m,W.tail_of_in k o})
def Xq(X:Cx)(C:dn)(t:TA):TS:=λ_ σ H=>t σ H λvs a=>vs.length<=c6/\Bo X σ C a
def Kr (k:afB B c f j)(u:aep X.K C j c=bi)(g:X.A.handled=am)(v:Gl X x)(hm:X.mg x=al (.ref C))(w:PA X (e::d) t)(l:bz x:=by decide)(m:bD X e d:=by rfl)(n:(T' b<|km d X.env).any (·.1)=bn:=by rfl) :
  PS X (.Raise (al<|.Call (.Name x p) (e::d) [] b) am pos) (Xq X C t):=by
 ext pins s σ H D I h;let(bm,y,nm,E,bs,hd,sn,sub,ab,col,dd,k0,k1,k2,k3,k5,mN,F,G,o,T):=TN I.ok.mod.ur u;$(wpAny_Raise_call_subT (nm:=nm) (q:=E) (N:=y) (bs:=bs) (hdct:=hd) (sn:=sn) (sub:=sub) (ab:=ab) (col:=col) (dd:=dd) (k0:=k0) (k1:=k1) (k2:=k2) (k3:=k3) (k5:=k5) k (T.hasType k.hasBase) g (by rw[m];show(false||(T' b<|km d X.env).any (·.1))=bn;rw[n];rfl) o<|rR I v hm ⟨ρ,?_⟩ l);let q:=w b pins s σ H _ I h;rw[m]at q ⊢;$(aeL (aI q λus J ⟨vs,H1,i,r,z,L⟩=>?_));$({ρ,by rw[<-r.length];$z,i.bk _ _ F,G.keeps i.bk,T.keeps i.bk,λh' a made=>L pins J h' a us i made})
def NS(X:Cx)(sp:Sp)(t:TA):TE:=λσ H Q=>t σ H λvs c=>∃E,sp vs c Q E/\∀cls a b,E cls (al a) b->pG X σ cls a b
variable{k:Nat}{f C:dn}{fd:hO}{ps:List eS}{sp:Sp}{E:XK}{x m:eS}{p pos apos:u1}{e o:hF}{es:List hF}{ta:TE}{t:TA}
theorem QJ (F:aV X.prog X.w X.K X.mg X.base (fU X.prog X.w) k f fd ps sp)(v:cF k X.A)(d:Binds X.K fd ps [])(i:X.ex=[])(I:Inv X pins σ H s)(r:aO vs us)(h:sp vs H Q E)(B:∀cls a j,E cls (al a) j->pG X σ cls a j):gj (hM X.prog X.w) X.A (call (.ref f) us) (EP X pins σ Q) X.xe s:=by
 let hl:(us++[]).length=ps.length:=by rw[nS,<-r.length];$(F.len _ _ _ _ h)
 let g:=d s us I.fY hl;rw[nS]at g;$(agn (aaC (F.run X.A X.stack s H {us,[]} us vs Q E v I.E3 g r h) λr s' c=>?_));cases r with
 |error e =>
  let(a,cls,l,rfl,os,bare,un,ao,fl,D):=c;let J:=I.Ew (ch:=[]) os un ao bare<|λb z=>absurd z ⋯;$(B cls a l D pins s' J (fl.weak λb _ d=>{λz=>?_,?_}))
  .let(q,c,e):=ae.1 z;let:=(I.pin q c).1;simp?[e,d]at this;$(nO this)
  cases y:X.dj.heap.get? b with
  |none=>rfl
  |some o=>let(o',n):=I.base.there b o y (by rw[i];simp);rw[d]at n;$(nO n)
 |ok fl =>
  cases fl with
  |ret u=>$(I.after c)
  |next=>$(KX c)
  |brk=>$(KX c)
  |cont=>$(KX c)
theorem Tb(F:aV X.prog X.w X.K X.mg X.base (fU X.prog X.w) k f fd ps sp)(g:cF k X.A)(i:Gl X x)(hm:X.mg x=al (.ref f))(j:acF X.K (.ref f)=bi)(l:Binds X.K fd ps [])(a:X.ex=[])
 (n:PA X (e::es) t)(b:bz x:=by decide)(u:bD X e es:=by rfl)(c:(T' pos<|km es X.env).any (·.1)=bn:=by rfl) :
  PE X (.Call (.Name x p) (e::es) [] pos) (NS X sp t):=by
 ext pins s σ H Q I h;$(ack<|rR I i hm ?_ b);$(ah2 I.ok.mod.ur j (aI (n pos pins s σ H _ I h) λus s1 ⟨vs,H1,d,r,E,q,v⟩=>{d.fY,?_}) u c);$(QJ F g l a d r q v)
end
def Ib(a:dn)(cls:cm)(h:nk):Prop:=∃o vs,h.get? a=al o/\o.cls=cls/\o.data=.fields vs
def excAt(a:dn)(cls:cm):HO:=.ext<|Ib a cls
section
variable{X:Cx}{pins:List (dn×zI)}{σ:St}{H:Hp}{s:cA}{prog:hZ}{w:nL}{A:ow}{E:cm->cA->Prop}{K:f'}{h:nk}{g:Array acQ}{d:Drawn}{t:Nat}{os:OsState}{a C:dn}{o:zI}
def Inv.Kx (I:Inv X pins σ H s)(F:Flt (rh X pins) H X.dj.heap a cls fl s.heap):Inv X pins σ (upd H a<|excAt a cls) s:=by
 let((a0,T,l,oT,vs,ts,f,B,j,_),na,D,G):=F;let ne:∀b u,H b=al u->b≠a:=λb u q z=>by rw[z,na]at q;$(nO q)
 let(m,J,hl):=id I.loc;let(oL,es,ep,i,r,hr):=J;let L:X.env.locals≠a:=λz=>by simp?[z,f]at i;$$$$$$i;rw[j]at r;lk
 $({I.ok,I.os,I.bare,{I.base.keep,I.base.slot,λb o e n M=>?_,I.base.there,λb xs e=>?_,λb o u e=>?_,λb N e=>?_},I.loc,I.cell,?_,λx c e=>?_,λp y=>?_,λb u e=>?_,I.len})
 .rw[aA (λz=>by rw[z,D]at e;$(nO e))];$(I.base.free b o e n M)
 .let q:=I.base.iS b xs e;rw[aA (ne b _ q)];$q
 .let q:=I.base.hX b o u e;rw[aA (ne b _ q)];$q
 .let(more,q):=I.base.iY b N e;$({more,by rw[aA (ne b _ q)];$q})
 .rw[aA L];$I.free
 .let(v,o,ho,hd):=I.cell x c e;rw[aA (λz=>by simp?[z,f]at ho;$$$$$$ho;rw[j]at hd;lk)];$(I.fA x c e)
 .let(q,n,nl,nf,d):=I.pin p y;$({q,by rw[aA (λz=>G<|ae.2 ⟨p,y,z⟩)];$n,nl,nf,d})
 ext(z:b=a)
 .$$z;rw[a9]at e;$$$$$$e;$({⟨l,vs,f,B,j⟩,⟨l,f⟩,λh1 h2 ⟨o,O,P,Q,R⟩ k=>{o,O,k o P,Q,R}})
 rw[aA z]at e;$((I.ao b u e).gH (λc w' hc q=>q) (λc q=>by rw[aA (ne c _ q)];$q) λc xs q=>by rw[aA (ne c _ q)];$q)
def Inv.MG (I:Inv X pins σ H s)(O:X.N.Nodup)(P:X.N[i]?=al n)(hl:∀(i:Nat) (x:eS) (v:V),X.N[i]?=al x->σ[i]?=al (al v)->bV X.env.scope x->∃u,RelV v u/\Look X.env s.heap m x u)(Q:h'.Ns X.env.locals (λx=>if x=n then v else m x))(f:L' X.env.locals s.heap h') :
  Inv X pins (σ.set i am) H {s with heap:=h',toks:=tk}:=by
 let iF:=I.iF;let(_,L,_):=I.loc;let(oL,_,_,hoL,_):=L;$({I.ok,I.os,I.bare,{λb o e n D F=>?_,λb o e n D F=>?_,I.base.free,λb o e F=>?_,I.base.iS,I.base.hX,I.base.iY},{_,Q,λj y R M B S=>?_},λy c e=>?_,I.free,I.fA,λp T=>?_,?_,by$$$$I.len})
 .exact (f.2 b<|gD<|iN (fj e) I.ok.above).trans (I.base.keep b o e n D F)
 .let(sl,q):=I.base.slot b o e n D F;$({sl,(f.2 b<|gD<|iN (fj e) I.ok.above).trans q})
 .let(U,q):=I.base.there b o e F;$({U,(f.2 b<|gD<|iN (fj e) I.ok.above).trans q})
 .ext(J:j=i)
  .subst J;ext(G:j<σ.length)
   .rw[qz G]at B;$$$B
   rw[aaA (by$$$$(Nat.le_of_not_lt G))]at B;$(nO B)
  rw[mu (Ne.symm J)]at B;let(u,r,l):=hl j y R M B S;$({u,r,?_});let(k,q)||(k,c,q,z):=l
  .refine ι {k,?_};let:y≠n:=λz=>J (yi O M<|z ▸ P);simp[this,q]
  exact τ {k,c,q,z.sameBut f<|iF y c q}
 .let(W,z):=I.cell y c e;$({W,z.sameBut f<|iF y c e})
 .let(e,n,ne,nf,d):=I.pin p T;$({(f.2 p.1 ne).trans e,n,ne,nf,d})
 refine I.ao.tracked λb u D q=>(f.2 b λz=>?_).trans q;$$z;$(D I.free)
abbrev Cx.jJ(X:Cx)(v:cm)(E:cm->cA->Prop):Cx:={X with A:=X.A.mark<|al v,calm:=false,xe:=E}
def Inv.jJ (I:Inv X pins σ H s):Inv (X.jJ v E) pins σ H s :=
 {{I.ok.mod,I.ok.kind,I.ok.glob,I.ok.blt,I.ok.above,I.ok.inj,I.ok.has,I.ok.mn,λz=>(by lk),I.ok.frames,I.ok.kW,I.ok.r9,I.ok.bs,I.ok.jG,I.ok.mB,I.ok.pE,I.ok.ik,I.ok.lX},I.os,I.bare,I.base,I.loc,I.cell,I.free,I.fA,I.pin,I.ao,I.len}
def Inv.NM (ok:X.Ok)(I:Inv (X.jJ v E) pins σ H s):Inv X pins σ H s :=
 ⟨ok,I.os,I.bare,I.base,I.loc,I.cell,I.free,I.fA,I.pin,I.ao,I.len⟩
abbrev Cx.pH(X:Cx)(pn:List (dn×zI))(E:cm->cA->Prop):Cx:={X with pn:=pn,xe:=E}
def Inv.pH (I:Inv X pins σ H s):Inv (X.pH (X.pn++pins) E) [] σ H s :=
 {⟨I.ok.mod,I.ok.kind,I.ok.glob,I.ok.blt,I.ok.above,I.ok.inj,I.ok.has,I.ok.mn,I.ok.hd,I.ok.frames,I.ok.kW,I.ok.r9,I.ok.bs,I.ok.jG,I.ok.mB,I.ok.pE,I.ok.ik,I.ok.lX⟩,I.os,I.bare,I.base,I.loc,I.cell,I.free,I.fA,by$$$$I.pin,I.ao,I.len}
def Inv.pJ (I:Inv (X.pH (X.pn++pins) E) b σ H s):Inv X pins σ H s :=
 {⟨I.ok.mod,I.ok.kind,I.ok.glob,I.ok.blt,I.ok.above,I.ok.inj,I.ok.has,I.ok.mn,I.ok.hd,I.ok.frames,I.ok.kW,I.ok.r9,I.ok.bs,I.ok.jG,I.ok.mB,I.ok.pE,I.ok.ik,I.ok.lX⟩,I.os,I.bare,I.base,I.loc,I.cell,I.free,I.fA,λp c=>I.pin p<|abD _ c,I.ao,I.len}
theorem SP.pJ (h:SP (X.pH (X.pn++pins) E) e D f s'):SP X pins D f s':=by
 cases f with
 |next=>let(b,c,I,q):=h;$(⟨b,c,I.pJ,q⟩)
 |brk=>let(b,c,I,q):=h;$(⟨b,c,I.pJ,q⟩)
 |cont=>let(b,c,I,q):=h;$(⟨b,c,I.pJ,q⟩)
 |ret u=>let(v,b,c,I,r,q):=h;$(⟨v,b,c,I.pJ,r,q⟩)
def sE(X:Cx)(hs:List adG)(Q:Flow->cA->Prop):cm->cA->Prop:=λe f =>
 gj (hM X.prog X.w) X.A (noteFrame e X.env) (λ_ b=>gj (hM X.prog X.w) X.A (setFlight e am) (λ_ c=>gj (hM X.prog X.w) X.A (handleBy e X.env hs) Q X.xe c) X.xe b) X.xe f
def Lw(X:Cx)(hs:List adG)(b:List (dn×zI)->(cm->cA->Prop)->TS):TS:=λD σ H=>∀pins,b (X.pn++pins) (sE X hs<|SP X pins D) D σ H
theorem Xh{body:List aas}{h₀:adG}{hs:List adG}{pos:u1}{b:List (dn×zI)->(cm->cA->Prop)->TS}(i:∀pn c,gu (X.pH pn c) body<|b pn c):PS X (.Try body (h₀::hs) [] [] pos) (Lw X (h₀::hs) b):=by
 ext pins s σ H D I h;$(wpAny_Try_except ?_);$(z6 (i (X.pn++pins) (sE X (h₀::hs)<|SP X pins D) [] s σ H D I.pH<|h pins) (λfl j q=>?_) λe j q=>q);let q:=SP.pJ q;cases fl with
 |next=>let(f,k,l,m):=q;$(ab0 ⟨f,k,l,m⟩)
 |brk=>$q
 |cont=>$q
 |ret u=>$q
theorem Ut{x n:eS}{C a:dn}{cls:cm}{i:Nat}{f:aas}{jJ:List aas}{np M:u1}{D:Ends}{O:TS}(V:X.N.Nodup)(Y:X.N[i]?=al n)(hl:X.env.kindOf n=some .local)(j:X.ex=[])(G:X.stack=X.env::X.outer)(Z:X.env.frame=al X.env.locals)
 (hg:Gl X x)(hm:X.mg x=al (.ref C))(hx:ahc X.K cls (.ref C)=al true)(YA:∀v,gu (X.jJ v λ_ _=>False) (f::jJ) O)(hq:O {nx:=λJ P=>D.nx (J.set i am) P,rt:=λ_ _=>False} (σ.set i<|al<|.ref a) (upd H a<|excAt a cls))
 (hd:bz x:=by decide):pG (X.pH (X.pn++pins)<|sE X [.ExceptHandler (al<|.Name x np) (al n) (f::jJ) M]<|SP X pins D) σ cls a H:=by
 ext pins' s I0 F0;let I:Inv X pins σ H s:=I0.pJ;let F:Flt (rh X pins) H X.dj.heap a cls .none s.heap:=F0.weak λb hb Q=>{λz=>hb (by let(p,hp,e):=ae.1 z;$(ae.2 {p,abD _ hp,e})),Q}
 clear I0 F0;let(a0,B,k,c,l,tr,nx):=I.wz F j;$(wpAny_looks_onW (by rw[I.ok.frames,G]) Z {k,c,G ▸ l,tr} λR held up=>?_);let(I1,F1):=nx R s.toks _ held.1 held.2.2.2 up;clear nx up held;let(a0,B,k,c,l,tr,nx):=I1.wz F1 j;$(wpAny_landsW ⟨k,c,l,tr⟩ λr held up=>?_);let(S,F2):=nx r s.toks _ held.1 held.2.2.2 up;clear nx up held;$(wpAny_handleBy_cons (codeAny_handlers_test<|rR (X:=X.jJ (.ref a) λ_ _=>False) S.jJ hg hm ?_ hd) (by ext q;lk));let LT:agg (hM X.prog X.w) r (typeOf<|.ref a) cls:=by let((a0,T,oe,oT,vs,O,e1,e2,_),_,_,_):=F2;$$e2;$((agx e1).andThen .now)
 $((W.exm_one S.fY LT hx).at ?_);$(codeAny_handlers_suite_as ?_);let(a0,B,k,c,l,tr,nx):=S.wz F2 j;$(lands_againW ⟨k,c,l,tr⟩ λU held up=>?_);let(I3,F3):=nx U s.toks _ held.1 held.2.2.2 up;let I4:=I3.Kx F3;$(Ax (X:=X.jJ (.ref a) λ_ _=>False) (v:=.ref a) I4.jJ V Y (ι hl) ρ (λs' I5=>?_)<|τ hl);$(z6 (YA (.ref a) pins s' _ _ _ I5 hq) (λfl s6 q=>?_) λ_ _ z=>z.elim);cases fl with
 |next=>let(J,P,y,q6):=q;let y:=y.NM I.ok;let(m,Q,YE):=id y.loc;$(wpAny_nameGoes_keeps hl Q (by rw[I.ok.kind];rfl) λh' v YF sb=>?_);$({_,P,y.MG V Y YE YF sb,q6})
 |brk=>let(_,_,_,q):=q;$q.elim
 |cont=>let(_,_,_,q):=q;$q.elim
 |ret u=>let(_,_,_,_,_,q):=q;$q.elim
structure lF (K:f') (C:dn):Prop where
 ga:adJ K (.ref C) "__getattribute__"=al (al<|.builtin "BaseException.__getattribute__")
 gt:adJ K (.ref C) "__getattr__"=al am
 cl:adJ K (.ref C) "__class__"=al (al<|.builtin "object.__class__")
 be:aeo K C (.type "BaseException")=al true
 ob:aeo K C (.type "object")=al true
 cd:(ae8 K C).isSome=bi
def P9 (X:K.In h)(b:h.get? a=al o)(c:o.cls=.ref C)(k:lF K C)(hq:R (.ok<|.ret<|.ref C) ⟨h,g,d,t,os⟩) :
  abu (hM prog w) A (.call (.builtin "getset_descriptor.__get__") {[.builtin "object.__class__",.ref a,f],[]}) R ⟨h,g,d,t,os⟩:=by
 let e:=acR;let i:∀{A:ow}{Q:Bool->cA->Prop}{E:cm->cA->Prop},Q true ⟨h,g,d,t,os⟩->gj (hM prog w) A (isSubtype (.ref C)<|.type<|".".intercalate ("object.__class__".cutAt '.').dropLast) Q E ⟨h,g,d,t,os⟩:=λq=>by$((ahs X k.ob).at q)
 $(ada F.slot_gs_get.plain F.entry_gs_get
  (ahv.check _ _ _ _ _ _ _ _ e (F.args_gs_get _ _ _) ?_))
 repeat (any_goals (first|assumption|(with_reducible $(abt b ?_);rw[c])|with_reducible $(i ?_)|wp_step))
 $(⟨afk _ (by decide +kernel),
  vv F.entry_object_class ?_⟩)
 repeat (any_goals (first|assumption|(with_reducible $(abt b ?_);rw[c])|wp_step))
def W7 (X:K.In h)(b:h.get? a=al o)(c:o.cls=.ref C)(k:lF K C)(hq:Q (.done<|.ret<|.ref C) ⟨h,g,d,t,os⟩) :
  gj (hM prog w) A (ZI.«object.__getattribute__» {[.ref a,.str "__class__" tk],[]}) Q E ⟨h,g,d,t,os⟩:=by
 let f5:=acR;let f6:=ahv.lookup;let f7:=F.slot_gs_set.lookup;let e:∀{A:ow}{Q:Option cm->cA->Prop}{E:cm->cA->Prop},Q (al<|.builtin "object.__class__") ⟨h,g,d,t,os⟩->gj (hM prog w) A (acm (.ref C) "__class__") Q E ⟨h,g,d,t,os⟩:=λq=>(aev X k.cl).at q
 repeat (any_goals (first|assumption|(with_reducible $(abt b ?_);rw[c])|with_reducible $(e ?_)|wp_step))
 $(P9 X b c k ?_)
 repeat (any_goals (first|assumption|wp_step))
def Lc (X:K.In h)(e:h.get? a=al o)(f:o.cls=.ref C)(k:lF K C)(i:Q () ⟨h,g,d,t,os⟩) :
  gj M A (ag8 "BaseException.__getattribute__" {[.ref a,b],[]}) Q E ⟨h,g,d,t,os⟩:=by
 let j:builtinKind "BaseException.__getattribute__"=some .slot:=by decide +kernel
 let c:splitId "BaseException.__getattribute__"=al ("BaseException","__getattribute__"):=by decide +kernel
 let l:∀{A:ow}{Q:Bool->cA->Prop}{E:cm->cA->Prop},Q true ⟨h,g,d,t,os⟩->gj M A (isSubtype (.ref C)<|.type "BaseException") Q E ⟨h,g,d,t,os⟩:=λq=>(ahs X k.be).at q;let ha:=F.args_bexc_ga (.ref a) b;simp?[ag8,j,c];$(bg ?_);$$(isInstance)
 repeat (first|(with_reducible $(abt e ?_);rw[f])|with_reducible $(l ?_)|wp_step)
 $i
def XN{tk:Tok}{fill b:Bool}{Q:cm->cA->Prop}(X:K.In h)(e:h.get? a=al o)(f:o.cls=.ref C)(k:lF K C)(c:Slot "ValueError" "__getattribute__" "BaseException.__getattribute__")(hq:Q (.ref C) ⟨h,g,d,t,os⟩) :
  gj (hM prog w) A (getAttrBy (.ref a) (.str "__class__" tk) fill b) Q E ⟨h,g,d,t,os⟩:=by
 let f3:=c.bind<|.ref a;let hx0:(b&&onTheHeap (abp "BaseException.__getattribute__"))=bn:=by$$$b<;>rfl
 let i:(abp "BaseException.__getattribute__" == abp "object.__getattribute__")=bn:=by decide +kernel
 let hx1:(onTheHeap (mA C)&&abp "BaseException.__getattribute__" == abp "object.__getattribute__")=bn:=by rw[i];rfl
 let l:∀{A:ow}{Q:Option cm->cA->Prop}{E:cm->cA->Prop},Q (al<|.builtin "BaseException.__getattribute__") ⟨h,g,d,t,os⟩->gj (hM prog w) A (acm (.ref C) "__getattribute__") Q E ⟨h,g,d,t,os⟩:=λq=>(aev X k.ga).at q;let j:∀{A:ow}{Q:Option cm->cA->Prop}{E:cm->cA->Prop},Q am ⟨h,g,d,t,os⟩->gj (hM prog w) A (acm (.ref C) "__getattr__") Q E ⟨h,g,d,t,os⟩:=λq=>(aev X k.gt).at q
 repeat (any_goals (first|assumption|(with_reducible $(abt e ?_);rw[f])|with_reducible $(l ?_)|with_reducible $(j ?_)|wp_step))
 $(ada c.plain F.entry_bexc_ga<|Lc X e f k<|W7 X e f k ?_)
 repeat (any_goals (first|assumption|wp_step))
def M' (X:K.In h)(c:h.get? a=al o)(e:o.cls=.ref C)(k:lF K C)(b:Slot "ValueError" "__getattribute__" "BaseException.__getattribute__")(hq:Q (al<|.ref C) {h,g,d,t+1,os}) :
  gj (hM prog w) A (af1 (.ref a) "__class__") Q E ⟨h,g,d,t,os⟩:=by
 unfold af1 getAttrBy?
 repeat (any_goals (first|assumption|with_reducible apply XN X c e k b|wp_step))
theorem Jv(k:lF K C)(i:Slot "ValueError" "__getattribute__" "BaseException.__getattribute__"):W.KitX K (.ref a) (.ref C) (Ib a<|.ref C) where
 ty:=λ_ _ _ ⟨o,vs,c,f,_⟩=>f ▸ (agx c).andThen .now
 it:=λM h X _=>by
  let(cd,b):=W0.1 k.cd;unfold ae8 at b;$$$$$b
  .ext1 ho;ext A' Q' E' s' l q;unfold isType loadHead;$(bg<|wpAny_loadPart (l _ _<|X _ _ ho)<|dr q)
  $(nO b)
 ne:=λh m dd its n sl X j=>by
  let(cd,b):=W0.1 k.cd;$(acd.2 λq=>?_);let e:C=m:=Value.ref.inj<|beq_iff_eq.1 q;$$e;unfold ae8 at b;$$$$$b
  .ext1 ho;let z:=(X _ _ ho).symm.trans j;$$$z
  $(nO b)
 ca:=λ{_ _ _ _ _ s} X ⟨o,vs,c,f,_⟩ q=>by let(h,g,d,t,os):=s;$(M' X c f k i q)
end
inductive Dat where
 |aG|bl (b:Bool)|int (i:Int)|str (x:eS)
 |U (xs:List Dat)|L (xs:List Dat)|bK (ks:List (eS×Dat))
 |exc (C:dn)
 |ins (C:dn×dn) (fs:List (eS×Dat))
 |bQ (ns:List Int)
 |adr (p:dn)
 /-- a dict that is gone through: its object stays as it is -/
 |cN (ks:List (eS×Dat))
 /-- a dict whose keys are tuples of texts;fz: gone through,its object stays as it is -/
 |bh (fz:Bool) (ks:List (List eS×Dat))
mutual
/-- the value v is the datum d,over the heap H (and the module's own objects) -/
def Rep(K:f')(H:Hp):Dat->V->Prop
 |.aG,v=>v=.aG
 |.bl b,v=>v=.bl b
 |.int i,v=>v=.int i
 |.str x,v=>v=.str x
 |.U ds,v=>∃p vs,v=.ref p/\bf K H p vs/\aB K H ds vs
 |.L ds,v=>∃p vs,v=.ref p/\Rd H p (.L vs)/\aB K H ds vs
 |.bK a,v=>∃p kvs,v=.ref p/\H p=al (.dK kvs)/\bO K H a kvs
 |.exc C,v=>∃p,v=.ref p/\H p=al (excAt p<|.ref C)
 |.ins C fs,v=>∃p c vs,v=.ref p/\H p=al (.ins C.1 c vs)/\oY K H fs vs/\p=C.2
 |.bQ ns,v=>∃p,v=.ref p/\cC K H p (ns.map V.int)
 |.adr p,v=>v=.ref p
 |.cN a,v=>∃p o kvs,v=.ref p/\H p=al (.bA o<|.dK kvs)/\bO K H a kvs
 |.bh e a,v=>∃p o kvs,v=.ref p/\H p=al (if e then .bA o (.dT kvs)else .dT kvs)/\cc K H a kvs
def aB(K:f')(H:Hp):List Dat->List V->Prop
 |[],vs=>vs=[]
 |d::ds,vs=>∃v r,vs=v::r/\Rep K H d v/\aB K H ds r
def bO(K:f')(H:Hp):List (eS×Dat)->List (Key×V)->Prop
 |[],kvs=>kvs=[]
 |(k,d)::a,kvs=>∃v r,kvs=(uy k,v)::r/\Rep K H d v/\bO K H a r
def cc(K:f')(H:Hp):List (List eS×Dat)->List (List Key×V)->Prop
 |[],kvs=>kvs=[]
 |(k,d)::a,kvs=>∃v r,kvs=(k.map uy,v)::r/\Rep K H d v/\cc K H a r
def oY(K:f')(H:Hp):List (eS×Dat)->List (eS×V)->Prop
 |[],kvs=>kvs=[]
 |(k,d)::a,kvs=>∃v r,kvs=(k,v)::r/\Rep K H d v/\oY K H a r
end
section
variable{K:f'}{H H':Hp}{H0:Hp×Hp}{Hi:Hp}{ps:Nat->Option dn}{Z:DS}{σ:St}{X:Cx}{e a b c:hF}{pos:u1}{Z':DS}{i:Nat}{r:Res}{v:V}
def bf.mono (s:aj H H')(h:bf K H p vs):bf K H' p vs:=by
 let(h||(o,h))||h:=h
 .$(ι<|ι<|s _ _ h)
 .$(ι<|τ ⟨o,s _ _ h⟩)
 $(τ h)
def cC.mono (s:aj H H')(h:cC K H p vs):cC K H' p vs:=by
 let(h||(o,h))||h:=h
 .$(ι<|ι<|s _ _ h)
 .$(ι<|τ ⟨o,s _ _ h⟩)
 $(τ h)
def Rd.mono (s:aj H H')(h:Rd H p u):Rd H' p u:=by
 let h||(o,h):=h
 .$(ι<|s _ _ h)
 $(τ {o,s _ _ h})
mutual
theorem Rep.mono(s:aj H H'):∀{d:Dat}{v:V},Rep K H d v->Rep K H' d v
 |.aG,_,h=>h
 |.bl _,_,h=>h
 |.int _,_,h=>h
 |.str _,_,h=>h
 |.U _,_,h=>by let(p,vs,e,q,r):=h;exact{p,vs,e,bf.mono s q,aB.mono s r}
 |.L _,_,h=>by let(p,vs,e,q,r):=h;exact{p,vs,e,Rd.mono s q,aB.mono s r}
 |.bK _,_,h=>by let(p,kvs,e,q,r):=h;exact{p,kvs,e,s _ _ q,bO.mono s r}
 |.exc _,_,h=>by let(p,e,q):=h;exact{p,e,s _ _ q}
 |.ins _ _,_,h=>by let(p,g,vs,e,q,r,z):=h;exact{p,g,vs,e,s _ _ q,oY.mono s r,z}
 |.bQ _,_,h=>by let(p,e,q):=h;exact{p,e,cC.mono s q}
 |.adr _,_,h=>h
 |.cN _,_,h=>by let(p,o,kvs,e,q,r):=h;exact{p,o,kvs,e,s _ _ q,bO.mono s r}
 |.bh _ _,_,h=>by let(p,o,kvs,e,q,r):=h;exact{p,o,kvs,e,s _ _ q,cc.mono s r}
theorem aB.mono(s:aj H H'):∀{ds:List Dat}{vs:List V},aB K H ds vs->aB K H' ds vs
 |[],_,h=>h
 |_::_,_,h=>by let(v,r,e,q,t):=h;exact{v,r,e,Rep.mono s q,aB.mono s t}
theorem bO.mono(s:aj H H'):∀{f:List (eS×Dat)}{kvs:List (Key×V)},bO K H f kvs->bO K H' f kvs
 |[],_,h=>h
 |(_,_)::_,_,h=>by let(v,r,e,q,t):=h;exact{v,r,e,Rep.mono s q,bO.mono s t}
theorem cc.mono(s:aj H H'):∀{f:List (List eS×Dat)}{kvs:List (List Key×V)},cc K H f kvs->cc K H' f kvs
 |[],_,h=>h
 |(_,_)::_,_,h=>by let(v,r,e,q,t):=h;exact{v,r,e,Rep.mono s q,cc.mono s t}
theorem oY.mono(s:aj H H'):∀{f:List (eS×Dat)}{kvs:List (eS×V)},oY K H f kvs->oY K H' f kvs
 |[],_,h=>h
 |(_,_)::_,_,h=>by let(v,r,e,q,t):=h;exact{v,r,e,Rep.mono s q,oY.mono s t}
end
theorem aB.length:∀{ds:List Dat}{vs:List V},aB K H ds vs->vs.length=ds.length
 |[],_,h=>by rw[show _=[]from h];rfl
 |_::_,_,⟨v,r,e,q,t⟩=>by rw[e,g8,g8,aB.length t]
theorem aB.append:∀{ds d:List Dat}{vs f:List V},aB K H ds vs->aB K H d f->aB K H (ds++d) (vs++f)
 |[],_,_,_,h,h'=>by rw[show _=[]from h];$h'
 |_::_,_,_,_,⟨v,r,e,q,t⟩,h'=>{v,r++_,by rw[e];rfl,q,aB.append t h'}
theorem aB.get{ds:List Dat}{vs:List V}{i:Nat}{d:Dat}(h:aB K H ds vs)(e:ds[i]?=al d):∃v,vs[i]?=al v/\Rep K H d v:=by
 induction ds generalizing vs i with
 |nil=>simp at e
 |cons _ _ f =>
  let(v,r,rfl,q,t):=h;cases i with
  |zero=>simp at e;$$e;$(⟨v,ρ,q⟩)
  |succ i=>$(f (vs:=r) (i:=i) t (by$$$$e))
theorem aB.set (i:Nat)(h:aB K H ds vs)(q:Rep K H d v):aB K H (ds.set i d) (vs.set i v):=by
 induction ds generalizing vs i with
 |nil=>rw[show vs=[]from h];$ρ
 |cons _ _ f =>
  let(v,r,rfl,p,t):=h;cases i with
  |zero=>$({_,r,ρ,q,t})
  |succ i=>$({v,_,ρ,p,f i t})
inductive Slot where
 /-- nothing,data,a list or dict that this frame owns (its content),one that the caller owns and lends -/
 |no|D (d:Dat)|O (d:Dat)|io (d:Dat)
abbrev DS:=List Slot
inductive Res where
 |D (d:Dat)|O (d:Dat)
def Res.val:Res->Dat
 |.D d=>d
 |.O d=>d
def cW(K:f')(H Hi:Hp)(p:dn):Dat->Prop
 |.L ds=>∃vs,H p=al (.L vs)/\aB K Hi ds vs/\Hi p=am
 |.bK d=>∃kvs,H p=al (.dK kvs)/\bO K Hi d kvs/\Hi p=am
 |.bh f d=>f=bn/\∃kvs,H p=al (.dT kvs)/\cc K Hi d kvs/\Hi p=am
 |_=>False
def iB(Hi H:Hp)(p:dn)(o:HO):Prop:=Hi p=al o\/H p=am\/∃vs,o=.U vs
def iH(ps:Nat->Option dn)(p:dn):Prop:=∃i,ps i=al p
structure SR (K:f') (H0:Hp×Hp) (ps:Nat->Option dn) (Z:DS) (σ:St) (H Hi:Hp):Prop where
 sub:aj Hi H
 keep:∀b o,H0.1 b=al o->¬iH ps b->H b=al o
 gq:∀p,iH ps p->H p≠am
 D:∀(i:Nat) (d:Dat),Z[i]?=al (.D d)->∃v,σ[i]?=al (al v)/\Rep K Hi d v
 O:∀(i:Nat) (c:Dat),Z[i]?=al (.O c)->∃p,σ[i]?=al (al<|.ref p)/\cW K H Hi p c/\¬iH ps p/\H0.1 p=am
 io:∀(i:Nat) (c:Dat),Z[i]?=al (.io c)->∃p,σ[i]?=al (al<|.ref p)/\cW K H Hi p c/\ps i=al p
 ne:∀(i j:Nat) (c c':Dat) (p:dn),(Z[i]?=al (.O c)\/Z[i]?=al (.io c))->(Z[j]?=al (.O c')\/Z[j]?=al (.io c'))->σ[i]?=al (al<|.ref p)->σ[j]?=al (al<|.ref p)->i=j
 len:Z.length=σ.length
 nw:∀p o,Hi p=al o->iB H0.2 H0.1 p o
def RR(K:f')(H0:Hp×Hp)(ps:Nat->Option dn)(Z:DS)(σ:St)(H Hi:Hp)(v:V):Res->Prop
 |.D d=>Rep K Hi d v
 |.O c=>∃p,v=.ref p/\cW K H Hi p c/\¬iH ps p/\H0.1 p=am/\∀(i:Nat) (f:Dat),(Z[i]?=al (.O f)\/Z[i]?=al (.io f))->σ[i]?≠al (al<|.ref p)
theorem cW.some{p:dn}{c:Dat}(h:cW K H Hi p c):(∃o,H p=al o)/\Hi p=am:=by
 cases c with
 |L ds=>let(vs,e,_,n):=h;$({{_,e},n})
 |bK d=>let(vs,e,_,n):=h;$({{_,e},n})
 |bh fz d=>let(_,vs,e,_,n):=h;$({{_,e},n})
 |_=>$h.elim
theorem cW.nt{p:dn}{c:Dat}{vs:List V}(h:cW K H Hi p c)(e:H p=Option.some (.U vs)):False:=by
 cases c with
 |L ds=>let(vs,q,_):=h;simp!
 |bK d=>let(vs,q,_):=h;simp!
 |bh fz d=>let(_,vs,q,_):=h;simp!
 |_=>$h.elim
theorem cW.keeps{H' d:Hp}{p:dn}{c:Dat}(h:cW K H Hi p c)(e:H' p=H p)(s:aj Hi d)(n:d p=am):cW K H' d p c:=by
 cases c with
 |L ds=>let(vs,q,r,_):=h;$({vs,e.trans q,aB.mono s r,n})
 |bK f=>let(vs,q,r,_):=h;$({vs,e.trans q,bO.mono s r,n})
 |bh fz f=>let(z,vs,q,r,_):=h;$({z,vs,e.trans q,cc.mono s r,n})
 |_=>$h.elim
def jr (h:H p=am):aj H (upd H p o):=λb u e=>by rwa[aA (dE e h)]
def BO (s:aj Hi H):aj (upd Hi p o) (upd H p o):=λb u e=>by
 ext(d:b=p)
 .$$d;rw[a9]at e ⊢;$e
 rw[aA d]at e ⊢;$(s b u e)
def Je (s:aj Hi H)(h:H p=al o):aj (upd Hi p o) H:=λb u e=>by
 ext(d:b=p)
 .$$d;rw[a9]at e;$(h.trans e)
 rw[aA d]at e;$(s b u e)
def xG (s:aj Hi H)(h:Hi p=am):aj Hi (upd H p o):=λb u e=>by rw[aA (dE e h)];$(s b u e)
theorem SR.dv(S:SR K H0 ps Z σ H Hi)(h:H p=am):Hi p=am:=by
 cases e:Hi p with
 |none=>rfl
 |some o=>rw[S.sub _ _ e]at h;lk
theorem SR.bJ(S:SR K H0 ps Z σ H Hi)(h:H p=am):H0.1 p=am/\¬iH ps p:=by
 let d:¬iH ps p:=λm=>S.gq p m h;$({?_,d});cases e:H0.1 p with
 |none=>rfl
 |some o=>rw[S.keep _ _ e d]at h;lk
def SR.laid(S:SR K H0 ps Z σ H Hi)(h:H p=am):SR K H0 ps Z σ (upd H p o) (upd Hi p o)/\aj Hi (upd Hi p o):=by
 let sm:aj Hi (upd Hi p o):=jr<|S.dv h;let ne:∀{q:dn}{c:Dat},cW K H Hi q c->q≠p:=λf=>dE f.some.1.choose_spec h;$({{BO S.sub,λb u e n=>?_,λq m=>?_,λi d e=>?_,λi c e=>?_,λi c e=>?_,S.ne,S.len,λq u e=>?_},sm})
 .rw[aA (dE (S.keep b u e n) h)];$(S.keep b u e n)
 .ext(f:q=p);simp![a9];rw[aA f];$(S.gq q m)
 .let(v,a,b):=S.D i d e;$({v,a,Rep.mono sm b})
 .let(q,a,b,g,k):=S.O i c e;$({q,a,b.keeps (aA<|ne b) sm (by rw[aA (ne b)];$(b.some.2)),g,k})
 .let(q,a,b,g):=S.io i c e;$({q,a,b.keeps (aA<|ne b) sm (by rw[aA (ne b)];$(b.some.2)),g})
 ext(f:q=p)
 .$$f;$(τ<|ι (S.bJ h).1)
 rw[aA f]at e;$(S.nw q u e)
def SR.made(S:SR K H0 ps Z σ H Hi)(h:H p=am):SR K H0 ps Z σ (upd H p o) Hi:=by
 let g:=S.dv h;let ne:∀{q:dn}{c:Dat},cW K H Hi q c->q≠p:=λd=>dE d.some.1.choose_spec h;$({xG S.sub g,λb u e n=>?_,λq m=>?_,S.D,λi c e=>?_,λi c e=>?_,S.ne,S.len,S.nw})
 .rw[aA (dE (S.keep b u e n) h)];$(S.keep b u e n)
 .ext(d:q=p);simp![a9];rw[aA d];$(S.gq q m)
 .let(q,a,b,f,j):=S.O i c e;$({q,a,b.keeps (aA<|ne b) (aj.refl _) b.some.2,f,j})
 let(q,a,b,f):=S.io i c e;$({q,a,b.keeps (aA<|ne b) (aj.refl _) b.some.2,f})
theorem SR.dM(S:SR K H0 ps Z σ H Hi){p:dn}(h:H p=am):∀(i:Nat) (d:Dat),(Z[i]?=al (.O d)\/Z[i]?=al (.io d))->σ[i]?≠al (al<|.ref p):=by
 ext i d (e|e) z
 .let(q,a,b,_):=S.O i d e;rw[a]at z;$$$z;rw[b.some.1.choose_spec]at h;$$$h
 let(q,a,b,_):=S.io i d e;rw[a]at z;$$$z;rw[b.some.1.choose_spec]at h;$$$h
theorem SR.freeze(S:SR K H0 ps Z σ H Hi)(h:RR K H0 ps Z σ H Hi v r):∃f,SR K H0 ps Z σ H f/\aj Hi f/\Rep K f r.val v:=by
 cases r with
 |D d=>$({Hi,S,aj.refl _,h})
 |O c =>
  let(p,rfl,ho,np,s,nd):=h;let go:∀o,H p=al o->(∃f,f=upd Hi p o/\SR K H0 ps Z σ H f/\aj Hi f):=λo e=>by
   let sm:aj Hi (upd Hi p o):=jr ho.some.2;$({_,ρ,{Je S.sub e,S.keep,S.gq,λi d g=>?_,λi k g=>?_,λi k g=>?_,S.ne,S.len,λq u g=>?_},sm})
   .let(v,a,b):=S.D i d g;$({v,a,Rep.mono sm b})
   .let(q,a,b,m,w):=S.O i k g;let j:q≠p:=λz=>nd i k (ι g) (by rw[a,z]);$({q,a,b.keeps ρ sm (by rw[aA j];$(b.some.2)),m,w})
   .let(q,a,b,m):=S.io i k g;let j:q≠p:=λz=>nd i k (τ g) (by rw[a,z]);$({q,a,b.keeps ρ sm (by rw[aA j];$(b.some.2)),m})
   ext(j:q=p)
   .$$j;$(τ<|ι s)
   rw[aA j]at g;$(S.nw q u g)
  cases c with
  |L ds=>let(vs,e,r,n):=ho;let(f,rfl,l,sm):=go _ e;$({_,l,sm,p,vs,ρ,Rd.of a9,aB.mono sm r})
  |bK x=>let(vs,e,r,n):=ho;let(f,rfl,l,sm):=go _ e;$({_,l,sm,p,vs,ρ,a9,bO.mono sm r})
  |bh fz x=>let(rfl,vs,e,r,n):=ho;let(f,rfl,l,sm):=go _ e;$({_,l,sm,p,{cls:=.none,data:=.fields #[]},vs,ρ,a9,cc.mono sm r})
  |_=>$ho.elim
abbrev EF:=DS->Option (Res×DS)
abbrev DF:=DS->Option (Dat×DS)
abbrev BF:=DS->Option (Bool×DS)
abbrev AF:=DS->Option (List Dat×DS)
def Vi(K:f')(H0:Hp×Hp)(ps:Nat->Option dn)(σ:St)(Hi:Hp)(Q:VK)(r:Res)(Z':DS):Prop:=∀v H' d,SR K H0 ps Z' σ H' d->aj Hi d->RR K H0 ps Z' σ H' d v r->Q v H'
def Wd(K:f')(H0:Hp×Hp)(ps:Nat->Option dn)(σ:St)(Hi:Hp)(Q:VK)(d:Dat)(Z':DS):Prop:=∀v H' f,SR K H0 ps Z' σ H' f->aj Hi f->Rep K f d v->Q v H'
def zm(K:f')(H0:Hp×Hp)(ps:Nat->Option dn)(σ:St)(Hi:Hp)(Q:Hp->Prop)(Z':DS):Prop:=∀H' d,SR K H0 ps Z' σ H' d->aj Hi d->Q H'
def My(K:f')(H0:Hp×Hp)(ps:Nat->Option dn)(σ:St)(Hi:Hp)(Q:List V->Hp->Prop)(ds:List Dat)(Z':DS):Prop:=∀vs H' d,SR K H0 ps Z' σ H' d->aj Hi d->aB K d ds vs->Q vs H'
def R0(X:Cx)(f:EF)(t:TE):Prop:=∀(H0:Hp×Hp) (ps:Nat->Option dn) (Z:DS) (σ:St) (H Hi:Hp) (r:Res) (Z':DS) (Q:VK),f Z=al (r,Z')->SR X.K H0 ps Z σ H Hi ->
 Vi X.K H0 ps σ Hi Q r Z'->t σ H Q
inductive DE (X:Cx) (e:hF) (f:EF):Prop
 |mk (t:TE) (p:PE X e t) (q:R0 X f t)
def Sy(X:Cx)(f:DF)(t:TE):Prop:=∀(H0:Hp×Hp) (ps:Nat->Option dn) (Z:DS) (σ:St) (H Hi:Hp) (d:Dat) (Z':DS) (Q:VK),f Z=al (d,Z')->SR X.K H0 ps Z σ H Hi ->
 Wd X.K H0 ps σ Hi Q d Z'->t σ H Q
inductive DD (X:Cx) (e:hF) (f:DF):Prop
 |mk (t:TE) (p:PE X e t) (q:Sy X f t)
def NI(X:Cx)(f:BF)(t:TT):Prop:=∀(H0:Hp×Hp) (ps:Nat->Option dn) (Z:DS) (σ:St) (H Hi:Hp) (b:Bool) (Z':DS) (Q:Bool->Hp->Prop),f Z=al (b,Z')->SR X.K H0 ps Z σ H Hi ->
 zm X.K H0 ps σ Hi (Q b) Z'->t σ H Q
inductive DT (X:Cx) (e:hF) (f:BF):Prop
 |mk (t:TT) (p:PT X e t) (q:NI X f t)
def Nj(X:Cx)(f:BF)(t:TT):Prop:=∀(H0:Hp×Hp) (ps:Nat->Option dn) (Z:DS) (σ:St) (H Hi:Hp) (b:Bool) (Z':DS) (Q:Bool->Hp->Prop),f Z=al (b,Z')->SR X.K H0 ps Z σ H Hi ->
 zm X.K H0 ps σ Hi (Q b) Z'->t σ H Q
inductive DW (X:Cx) (e:hF) (f:BF):Prop
 |mk (t:TT) (p:PW X e t) (q:Nj X f t)
def VL(X:Cx)(f:AF)(t:TA):Prop:=∀(H0:Hp×Hp) (ps:Nat->Option dn) (Z:DS) (σ:St) (H Hi:Hp) (ds:List Dat) (Z':DS) (Q:List V->Hp->Prop),f Z=al (ds,Z')->SR X.K H0 ps Z σ H Hi ->
 My X.K H0 ps σ Hi Q ds Z'->t σ H Q
inductive DA (X:Cx) (es:List hF) (f:AF):Prop
 |mk (t:TA) (p:PA X es t) (q:VL X f t)
def ic(f:EF):DF:=λZ=>(f Z).map λp=>(p.1.val,p.2)
def rY(f:DF):EF:=λZ=>(f Z).map λp=>(.D p.1,p.2)
def DW.dt (h:DW X e f):DT X e f:=let⟨t,p,q⟩:=h;⟨t,p.pt,q⟩
def DE.dd (h:DE X e f):DD X e (ic f):=by let(t,p,q):=h;$({t,p,λH0 ps Z σ H Hi d Z' Q g S k=>?_});let(r,Z1,m,g):=oN g;let(rfl,rfl):=sP g;$(q H0 ps Z σ H Hi r Z1 Q m S λv H' Hi' n s' o=>?_);let(j,s,u,l):=n.freeze o;$(k v H' j s (s'.trans u) l)
def DD.de (h:DD X e f):DE X e (rY f):=by let(t,p,q):=h;$({t,p,λH0 ps Z σ H Hi r Z' Q g S k=>?_});let(d,Z1,m,g):=oN g;let(rfl,rfl):=sP g;$(q H0 ps Z σ H Hi d Z1 Q m S λv H' j n s' l=>k v H' j n s' l)
def fC(d:Dat):DF:=λZ=>al (d,Z)
def uL (h:PE X e (tC v))(r:∀H,Rep X.K H d v):DD X e (fC d) :=
 {_,h,λH0 ps Z σ H Hi d' Z' Q f S k=>by let(rfl,rfl):=sP f;$(k v H Hi S (aj.refl _)<|r _)}
def Vc{i j}:DD X (.Constant (.int i) j pos) (fC<|.int i):=uL (λ_ _ _ H _ I h=>wpAny_Constant_int {.int i,H,I.tok _,{_,ρ},h}) λ_=>rfl
def RM{i j}:DD X (.Constant (.bool i) j pos) (fC<|.bl i):=uL C6 λ_=>rfl
def QF{j}:DD X (.Constant .none j pos) (fC .aG):=uL Dn λ_=>rfl
def Vj{x j}:DD X (.Constant (.str x) j pos) (fC<|.str x):=uL lQ λ_=>rfl
structure Glob (X:Cx) (x:eS) (d:Dat):Prop where
 gl:Gl X x
 is:∃v u,X.mg x=al u/\RelV v u/\∀H,Rep X.K H d v
def Us (h:Glob X x d)(hd:bz x:=by decide):DD X (.Name x pos) (fC d):=by let(v,u,f,g,j):=h.is;$(uL (ko h.gl f g hd) j)
def eY(i:Nat):DF:=λZ=>match Z[i]? with
 |some (.D d)=>al (d,Z)
 |some (.O c)=>al (c,Z.set i<|.D c)
 |_=>am
def SR.Ec{K:f'}{H0:Hp×Hp}{H Hi:Hp}{ps:Nat->Option dn}{Z:DS}{σ:St}{i:Nat}{c:Dat}(S:SR K H0 ps Z σ H Hi)(e:Z[i]?=al (.O c)) :
  ∃l v,σ[i]?=al (al v)/\SR K H0 ps (Z.set i<|.D c) σ H l/\aj Hi l/\Rep K l c v:=by
 let(p,u,ho,B,C):=S.O i c e;let o:=(cn.1 e).1;let D:SR K H0 ps (Z.set i .no) σ H Hi:=by
  let get:∀{j:Nat}{s:Slot},(Z.set i .no)[j]?=al s->s≠.no->j≠i/\Z[j]?=al s:=λ{j s} h A=>by ext(g:j=i);simp!;rw[mu (Ne.symm g)]at h;$(⟨g,h⟩)
  $({S.sub,S.keep,S.gq,λj d h=>S.D j d (get h ⋯).2,λj f h=>S.O j f (get h ⋯).2,λj f h=>S.io j f (get h ⋯).2,λj k f n q x y=>?_,by rw[LK];$S.len,S.nw});$(S.ne j k f n q (x.imp (λz=>(get z ⋯).2) λz=>(get z ⋯).2) (y.imp (λz=>(get z ⋯).2) λz=>(get z ⋯).2))
 let r:RR K H0 ps (Z.set i .no) σ H Hi (.ref p) (.O c):=by
  $({p,ρ,ho,B,C,λj f h z=>?_});let g:j≠i:=λw=>by simp!
  rw[mu (Ne.symm g)]at h;$(g<|S.ne j i f c p h (ι e) z u)
 let(l,m,E,t):=D.freeze r;$({l,.ref p,u,{m.sub,m.keep,m.gq,λj d h=>?_,λj f h=>?_,λj f h=>?_,λj k f n q x y F G=>?_,by rw[LK];$S.len,m.nw},E,t})
 .ext(g:j=i)
  .$$g;rw[qz o]at h;$$$h;$({_,u,t})
  rw[mu (Ne.symm g)]at h;$(m.D j d (by rw[mu (Ne.symm g)];$h))
 all_goals
  let back:∀{j:Nat}{s:Slot},(Z.set i<|.D c)[j]?=al s->(∀d,s≠.D d)->(Z.set i .no)[j]?=al s:=λ{j s} h A=>by
   ext(g:j=i)
   .$$g;rw[qz o]at h;$$$$$$h;$(absurd ρ<|A c)
   rw[mu (Ne.symm g)]at h ⊢;$h
 .$(m.O j f<|back h (by ext d;simp))
 .$(m.io j f<|back h (by ext d;simp))
 $(m.ne j k f n q (x.imp (λz=>back z (by ext d;simp)) λz=>back z (by ext d;simp)) (y.imp (λz=>back z (by ext d;simp)) λz=>back z (by ext d;simp)) F G)
def Wq (i:Nat)(m:X.N[i]?=al x)(n:bV X.env.scope x)(hd:bz x:=by decide)(j:cB x:=by decide):DD X (.Name x pos) (eY i):=by
 $({_,dU m n hd j,λH0 ps Z σ H Hi d Z' Q f S k=>?_});unfold eY at f;$$$$$f
 .ext1 d0 g;$$$f;let(v,h,r):=S.D i d g;$({v,h,k v H Hi S (aj.refl _) r})
 .ext1 c0 g;let(rfl,rfl):=sP f;let(l,v,h,o,s',r):=S.Ec g;$({v,h,k v H l o s' r})
 $(nO f)
def Bw(i:Nat):EF:=λZ=>match Z[i]? with
 |some (.D d)=>al (.D d,Z)
 |some (.O c)=>al (.O c,Z.set i .no)
 |_=>am
def Nm (i:Nat)(w:X.N[i]?=al x)(y:bV X.env.scope x)(hd:bz x:=by decide)(n:cB x:=by decide):DE X (.Name x pos) (Bw i):=by
 $({_,dU w y hd n,λH0 ps Z σ H Hi r Z' Q g S k=>?_});unfold Bw at g;$$$$$g
 .ext1 A l;let(rfl,rfl):=sP g;let(v,m,r):=S.D i A l;$({v,m,k v H Hi S (aj.refl _) r})
 .ext1 o l;let(rfl,rfl):=sP g;let(p,m,ho,B,C):=S.O i o l;let hlt:=(cn.1 l).1;let get:∀{j:Nat}{s:Slot},(Z.set i .no)[j]?=al s->s≠.no->j≠i/\Z[j]?=al s:=λ{j s} h hn=>by ext(t:j=i);simp!;rw[mu (Ne.symm t)]at h;$(⟨t,h⟩)
  $({.ref p,m,k (.ref p) H Hi {S.sub,S.keep,S.gq,λj d h=>S.D j d (get h ⋯).2,λj f h=>S.O j f (get h ⋯).2,λj f h=>S.io j f (get h ⋯).2,λj k f u q D E=>?_,by rw[LK];$S.len,S.nw} (aj.refl _) {p,ρ,ho,B,C,λj f h z=>?_}})
  .$(S.ne j k f u q (D.imp (λz=>(get z ⋯).2) λz=>(get z ⋯).2) (E.imp (λz=>(get z ⋯).2) λz=>(get z ⋯).2))
  let h':j≠i/\(Z[j]?=al (.O f)\/Z[j]?=al (.io f)):=by
   let h||h:=h
   .$({(get h ⋯).1,ι (get h ⋯).2})
   $({(get h ⋯).1,τ (get h ⋯).2})
  $(h'.1<|S.ne j i f o p h'.2 (ι l) z m)
 $(nO g)
def cI(op:Dat->Dat->Option Res)(f g:DF):EF:=λZ=>(f Z).bind λp=>(g p.2).bind λq=>(op p.1 q.1).map λr=>(r,q.2)
def fS(X:Cx)(r:R2)(op:Dat->Dat->Option Res):Prop:=∀(H0:Hp×Hp) (ps:Nat->Option dn) (Z:DS) (σ:St) (H Hi:Hp) (x y:V) (d d':Dat) (o:Res) (Q:VK),op d d'=al o->SR X.K H0 ps Z σ H Hi->Rep X.K Hi d x->Rep X.K Hi d' y ->
 (∀v H' f,SR X.K H0 ps Z σ H' f->aj Hi f->RR X.K H0 ps Z σ H' f v o->Q v H')->r x y H Q
def B5{r:R2}{op:Dat->Dat->Option Res}{f g:DF}{l m:TE}(ho:fS X r op)
 (t:∀(H0:Hp×Hp) (ps:Nat->Option dn) (Z:DS) (σ:St) (H Hi:Hp) (d:Dat) (Z':DS) (Q:VK),f Z=al (d,Z')->SR X.K H0 ps Z σ H Hi->(∀v H' h,SR X.K H0 ps Z' σ H' h->aj Hi h->Rep X.K h d v->Q v H')->l σ H Q)
 (u:∀(H0:Hp×Hp) (ps:Nat->Option dn) (Z:DS) (σ:St) (H Hi:Hp) (d:Dat) (Z':DS) (Q:VK),g Z=al (d,Z')->SR X.K H0 ps Z σ H Hi->(∀v H' h,SR X.K H0 ps Z' σ H' h->aj Hi h->Rep X.K h d v->Q v H')->m σ H Q)
 (H0:Hp×Hp)(ps:Nat->Option dn)(Z:DS)(σ:St)(H Hi:Hp)(o:Res)(Z':DS)(Q:VK)(j:cI op f g Z=al (o,Z'))(S:SR X.K H0 ps Z σ H Hi)
 (k:∀v H' h,SR X.K H0 ps Z' σ H' h->aj Hi h->RR X.K H0 ps Z' σ H' h v o->Q v H'):qB r l m σ H Q:=by
 let(d,Z1,w,j):=oB j;let(d',Z2,z,j):=oB j;let(o',A,j):=oM j;let(rfl,rfl):=sP j;$(t H0 ps Z σ H Hi d Z1 _ w S λx B n C D E=>?_);$(u H0 ps Z1 σ B n d' _ _ z C λy F p G q I=>?_);$(ho H0 ps _ σ F p x y d d' _ Q A G (Rep.mono q E) I λv J s L M N=>k v J s L ((D.trans q).trans M) N)
def ny{op:Operator}{r:R2}{d:Dat->Dat->Option Res}{f g:DF}(h:aZ X (aar op) r)(ho:fS X r d)(j:DD X a f)(k:DD X b g):DE X (.BinOp a op b pos) (cI d f g):=by let(ta,l,m):=j;let(tb,n,o):=k;$({_,(λho e f=>by$(λd s g H Q I h=>wpAny_BinOp (AK e f I h λv u i x y j k l m q=>ho d i g j x y v u Q k l m q))) h l n,B5 ho m o})
def tV{op:aeK}{r:R2}{d:Dat->Dat->Option Res}{f g:DF}(h:aZ X (nr op) r)(ho:fS X r d)(j:DD X a f)(k:DD X b g)(hm:xn op b=bn):DE X (.Compare a [op] [b] pos) (cI d f g):=by let(ta,l,m):=j;let(tb,n,o):=k;$({_,Ey h l n hm,B5 ho m o})
def G6:R2:=λx y H Q=>∃l b xs zs,x=.ref l/\y=.ref b/\Rd H l (.L xs)/\Rd H b (.L zs)/\xs.length+zs.length<=c6/\∀p,H p=am->Q (.ref p) (upd H p<|.L<|xs++zs)
def DP(K:f'):R2:=λx y H Q=>∃l b xs zs,x=.ref l/\y=.ref b/\cC K H l xs/\Rd H b (.L zs)/\xs.length+zs.length<=c6/\∀p,H p=am->Q (.ref p) (upd H p<|.L<|xs++zs)
def LF(i j:Int):Prop:=0<j/\j.natAbs.log2<9000
def Ui:aZ X (aar .FloorDiv) (rI LF λi j=>.int<|i/j):=wo λi j _ _ _ _ _ d q=>by let h1:=d.1;$(floordiv_int (by lia) (by rw[Int.fdiv_eq_ediv_of_nonneg i (by lia)];$q)<|ι<|PyProof.noPylong_of_log2 d.2)
theorem aB.ints:∀(ns:List Int),aB K H (ns.map Dat.int) (ns.map V.int)
 |[]=>rfl
 |n::ns=>{_,_,ρ,ρ,aB.ints ns}
def gN:Dat->Dat->Option Res
 |.int i,.int j=>al (.D<|.int<|i+j)
 |.str x,.str y=>if x.length+y.length<=c6 then al (.D<|.str<|x++y)else am
 |.L xs,.L ys=>if xs.length+ys.length<=c6 then al (.O<|.L<|xs++ys)else am
 |.bQ xs,.L ys=>if xs.length+ys.length<=c6 then al (.O<|.L<|xs.map Dat.int++ys)else am
 |.U (x::xs),.U (y::ys)=>if(x::xs).length+(y::ys).length<=c6 then al (.D<|.U<|(x::xs)++(y::ys))else am
 |_,_=>am
def Jh(K:f'):R2:=λx y H Q=>iZ (λi j=>.int<|i+j) x y H Q\/(λx y H Q=>(λx y H Q=>∃i j,x=.str i/\y=.str j/\i.length+j.length<=c6/\Q (.str<|i++j) H) x y H Q\/(λx y H Q=>G6 x y H Q\/(λx y H Q=>DP K x y H Q\/Ed K x y H Q) x y H Q) x y H Q) x y H Q
def PV:aZ X (aar .Add) (Jh X.K):=aZ.or (D3 λ_ _ _ _ _ _ _ q=>add_int q) (aZ.or PR (aZ.or (by
  ext pins s σ H x y v u Q I g j h;let(l,b,xs,zs,rfl,rfl,k,m,hz,q):=h;$$g;$$j;let(z,its,n,r,e):=k.ok I.ao;let(z2,d,n2,f,o):=m.ok I.ao;let hl:=r.length;let hl2:=f.length;$(PySem.P.add_list e o ?_ (by rw[gs,gs];lia));let p:its.toArray++d.toArray=(its++d).toArray:=⋯
  rw[p];$({.ref _,_,I.xB (r.append f) (by rw[eR];$_),ρ,q _ I.fresh})) (aZ.or (by
    ext pins s σ H x y v u Q I k m h;let(l,b,xs,zs,rfl,rfl,o,p,hz,q):=h;$$k;$$m;let(its,r,((cls,dd,data,sl),n,ho,f,hd,hs),z):=I.list o;subst f hd hs;let(z2,d,t,g,j):=p.ok I.ao;let hl:=r.length;let hl2:=g.length;$(afu {_,ho,ρ} {_,j,ρ} noFill_list_add seq_list_add PySem.F.slot_list_add PySem.F.entry_list_add (PySem.F.args_list_add_2 _ _) (list_addW l b its.toArray d.toArray n t am am sl #[] (by rw[gs,gs];lia)) {ho,j,?_});let w:its.toArray++d.toArray=(its++d).toArray:=⋯
    rw[w];$({.ref _,_,I.xB (r.append g) (by rw[eR];$_),ρ,q _ I.fresh})) KI)))
def Pe:fS X (Jh X.K) gN:=by
 ext H0 ps Z σ H Hi x y d d' o Q e S j l k;delta gN at e;$$$$$e
 .$$$$$$e;$$j;$$l;$(ι {_,_,ρ,ρ,k _ H Hi S (aj.refl _) ρ})
 .$$$$$e
  .ext1 hz;$$$$$$e;$$j;$$l;$(τ<|ι ⟨_,_,ρ,ρ,hz,k _ H Hi S (aj.refl _) ρ⟩)
  $(nO e)
 .$$$$$e
  .ext1 hz;$$$$$$e;let(p,vs,rfl,m,n):=j;let(s,h,rfl,t,g):=l;$(τ (τ<|ι ⟨p,s,vs,h,ρ,ρ,Rd.mono S.sub m,Rd.mono S.sub t,by rw[n.length,g.length];$hz,λq f=>?_⟩));$(k (.ref q) _ Hi (S.made f) (aj.refl _) {q,ρ,{_,a9,aB.append n g,S.dv f},(S.bJ f).2,(S.bJ f).1,S.dM f})
  $(nO e)
 .$$$$$e
  .ext1 hz;$$$$$$e;let(p,rfl,m):=j;let(s,h,rfl,t,g):=l;$(τ (τ<|τ<|ι ⟨p,s,_,h,ρ,ρ,cC.mono S.sub m,Rd.mono S.sub t,by rw[a8,g.length];$hz,λq f=>?_⟩));$(k (.ref q) _ Hi (S.made f) (aj.refl _) {q,ρ,{_,a9,aB.append (aB.ints _) g,S.dv f},(S.bJ f).2,(S.bJ f).1,S.dM f})
  $(nO e)
 .$$$$$e
  .ext1 hz;$$$$$$e;let(p,vs,rfl,m,n):=j;let(s,h,rfl,t,g):=l;let u:=n.length;let w:=g.length;$(τ<|τ<|τ<|τ ⟨p,s,vs,h,ρ,ρ,bf.mono S.sub m,bf.mono S.sub t,λz=>?_,by rw[u,w];$hz,λz=>?_,λ_ q f=>?_⟩)
   .rw[z]at u;lk
   .rw[z]at w;lk
   let(A,s'):=S.laid f;$(k (.ref q) _ _ A s' {q,_,ρ,bf.of a9,aB.mono s'<|aB.append n g})
  $(nO e)
 $(nO e)
def fP(C:Int->Int->Bool)(g:Int->Int->Dat):Dat->Dat->Option Res
 |.int i,.int j=>if C i j=bi then al (.D<|g i j)else am
 |_,_=>am
def vn (f:∀i j,C i j=bi->C' i j)(h:∀i j K H,Rep K H (g i j)<|g' i j):fS X (rI C' g') (fP C g):=by
 ext H0 ps Z σ H Hi x y d d' o Q e S l m k;delta fP at e;$$$$$e
 .$$$$$e
  .ext1 n;$$$$$$e;$$l;$$m;$({_,_,ρ,ρ,f _ _ n,k _ H Hi S (aj.refl _)<|h _ _ _ _})
  $(nO e)
 $(nO e)
def tS (f:∀i j K H,Rep K H (g i j)<|g' i j):fS X (iZ g') (fP (λ_ _=>true) g):=by
 ext H0 ps Z σ H Hi x y d d' o Q e S h l k;delta fP at e;$$$$$e
 .$$$$$e
  .$$$$$$e;$$h;$$l;$({_,_,ρ,ρ,k _ H Hi S (aj.refl _)<|f _ _ _ _})
  lk
 $(nO e)
def lR:Res->Slot
 |.D d=>.D d
 |.O c=>.O c
def mj(i:Nat)(r:Res)(Z:DS):Option DS:=match Z[i]? with
 |none=>am
 |some (.io _)=>am
 |some _=>al<|Z.set i<|lR r
theorem SR.put(S:SR K H0 ps Z σ H Hi)(w:RR K H0 ps Z σ H Hi v r)(e:mj i r Z=al Z'):SR K H0 ps Z' (σ.set i<|al v) H Hi:=by
 delta mj at e;cases x:Z[i]? with
 |none=>rw[x]at e;$(nO e)
 |some s =>
  let t:=(cn.1 x).1;let C:i<σ.length:=by rw[<-S.len];$t
  let F:Z'=Z.set i (lR r)/\∀c,s≠.io c:=by rw[x]at e;$$$s<;>first|($(nO e);done)|($(⟨(Option.some.inj e).symm,by ext c;simp⟩))
  let(rfl,_):=F;let other:∀{j:Nat}{s':Slot},j≠i->(Z.set i<|lR r)[j]?=al s'->Z[j]?=al s':=λ{j s'} f h=>by rwa[mu (Ne.symm f)]at h
  let ad3:∀{s':Slot},(Z.set i<|lR r)[i]?=al s'->s'=lR r:=λ{s'} h=>by rw[qz t]at h;$((Option.some.inj h).symm)
  let g:∀{j:Nat},j≠i->(σ.set i<|al v)[j]?=σ[j]?:=λ{j} f=>mu<|Ne.symm f;let y:(σ.set i<|al v)[i]?=al (al v):=qz C;$({S.sub,S.keep,S.gq,λj d h=>?_,λj c h=>?_,λj c h=>?_,λj k c m p A B n o=>?_,by simp?[LK,LK];$S.len,S.nw})
  .ext(f:j=i)
   .subst f;let q:=ad3 h;cases r with
    |D d'=>$$$q;$(⟨v,y,w⟩)
    |O c=>lk
   rw[g f];$(S.D j d<|other f h)
  .ext(f:j=i)
   .subst f;let q:=ad3 h;cases r with
    |D d'=>$$$q
    |O c =>
     cases q;let(p,rfl,ho,D,E,_):=w;$(⟨p,y,ho,D,E⟩)
   rw[g f];$(S.O j c<|other f h)
  .ext(f:j=i)
   .subst f;let q:=ad3 h;$$$r<;>lk
   rw[g f];$(S.io j c<|other f h)
  let back:∀{j:Nat}{c:Dat},((Z.set i<|lR r)[j]?=al (.O c)\/(Z.set i<|lR r)[j]?=al (.io c))->j≠i->(Z[j]?=al (.O c)\/Z[j]?=al (.io c)):=λh f=>h.imp (other f) (other f);let u:∀{c:Dat}{p:dn},((Z.set i<|lR r)[i]?=al (.O c)\/(Z.set i<|lR r)[i]?=al (.io c))->(σ.set i<|al v)[i]?=al (al<|.ref p)->∀(k:Nat) (m:Dat),(Z[k]?=al (.O m)\/Z[k]?=al (.io m))->σ[k]?≠al (al<|.ref p):=λ{c p} h z=>by
   rw[y]at z;cases r with
   |D d'=>let h||h:=h<;>cases ad3 h
   |O c0=>let(p',G,ho,D,E,nd):=w;$$G;$$$z;$nd
  ext(f:j=i)
  .ext(l:k=i)
   .simp?[f,l]
   subst f;rw[g l]at o;$(absurd o<|u A n k m<|back B l)
  ext(l:k=i)
  .subst l;rw[g f]at n;$(absurd n<|u B o j c<|back A f)
  rw[g f]at n;rw[g l]at o;$(S.ne j k c m p (back A f) (back B l) n o)
abbrev GF:=Dat->DS->Option DS
def Qd(X:Cx)(g:GF)(t:TG):Prop:=∀(H0:Hp×Hp) (ps:Nat->Option dn) (Z:DS) (σ:St) (H Hi:Hp) (d:Dat) (Z':DS) (v:V) (Q:St->Hp->Prop),g d Z=al Z'->SR X.K H0 ps Z σ H Hi->Rep X.K Hi d v ->
 (∀f,SR X.K H0 ps Z' f H Hi->Q f H)->t v σ H Q
inductive DG (X:Cx) (tg:hF) (g:GF):Prop
 |mk (t:TG) (p:PG X tg t) (q:Qd X g t)
def Si(X:Cx)(g:List Dat->DS->Option DS)(t:jR):Prop:=∀(H0:Hp×Hp) (ps:Nat->Option dn) (Z:DS) (σ:St) (H Hi:Hp) (ds:List Dat) (Z':DS) (vs:List V) (Q:St->Hp->Prop),g ds Z=al Z'->SR X.K H0 ps Z σ H Hi->aB X.K Hi ds vs ->
 (∀d,SR X.K H0 ps Z' d H Hi->Q d H)->t vs σ H Q
inductive nV (X:Cx) (tgs:List hF) (g:List Dat->DS->Option DS):Prop
 |mk (t:jR) (p:qZ X tgs t) (q:Si X g t)
def BD(i:Nat):GF:=λd Z=>mj i (.D d) Z
def PJ:List Dat->DS->Option DS
 |[],Z=>al Z
 |_,_=>am
def ER(g:GF)(f:List Dat->DS->Option DS):List Dat->DS->Option DS
 |d::ds,Z=>(g d Z).bind (f ds)
 |[],_=>am
theorem PQ:nV X [] PJ:=by
 $({_,Kq,λH0 ps Z σ H Hi ds Z' vs Q e S r k=>?_});cases ds with
 |nil=>$$$$$$e;$({r,k σ S})
 |cons _ _=>$(nO e)
theorem Yf (m:DG X e g)(n:nV X f h)(hs:(u3 (e::f) X.env).map (·.2)=abL e X.env::(u3 f X.env).map (·.2):=by rfl):nV X (e::f) (ER g h):=by
 let(t1,o,p):=m;let(t2,q,s):=n;$({_,Nz o q hs,λH0 ps Z σ H Hi ds Z' vs Q e S r k=>?_});cases ds with
 |nil=>$(nO e)
 |cons d ds=>let(v,j,rfl,t,u):=r;let(Z1,w,e):=oA e;$({v,j,ρ,p H0 ps Z σ H Hi d Z1 v _ w S t λl x=>s H0 ps Z1 l H Hi ds Z' j Q e x u k})
inductive Out where
 |next (Z:DS)|ret (r:Res) (Z:DS)|brk (Z:DS)|cont (Z:DS)|exc (C:dn) (Z:DS)
def XE(X:Cx)(C:dn)(σ:St)(H:Hp):Prop:=Bo X σ C H/\∀a,pG X σ (.ref C) a H
abbrev SF:=DS->Option Out
def tP(X:Cx)(H0:Hp×Hp)(ps:Nat->Option dn)(Hi:Hp)(D:Ends):Out->Prop
 |.next Z=>∀f H' d,SR X.K H0 ps Z f H' d->aj Hi d->D.nx f H'
 |.ret r Z=>∀v f H' d,SR X.K H0 ps Z f H' d->aj Hi d->RR X.K H0 ps Z f H' d v r->D.rt v H'
 |.brk Z=>∀f H' d,SR X.K H0 ps Z f H' d->aj Hi d->D.bk f H'
 |.cont Z=>∀f H' d,SR X.K H0 ps Z f H' d->aj Hi d->D.ct f H'
 |.exc C Z=>∀f H' d,SR X.K H0 ps Z f H' d->aj Hi d->XE X C f H'
theorem tP.mono (s:aj Hi j)(h:tP X H0 ps Hi D o):tP X H0 ps j D o:=by
 cases o with
 |next Z=>$(λd H' f S g=>h d H' f S (s.trans g))
 |ret r Z=>$(λv d H' f S g=>h v d H' f S (s.trans g))
 |brk Z=>$(λd H' f S g=>h d H' f S (s.trans g))
 |cont Z=>$(λd H' f S g=>h d H' f S (s.trans g))
 |exc C Z=>$(λd H' f S g=>h d H' f S<|s.trans g)
def Kt(X:Cx)(f:SF)(t:TS):Prop:=∀(H0:Hp×Hp) (ps:Nat->Option dn) (Z:DS) (σ:St) (H Hi:Hp) (o:Out) (D:Ends),f Z=al o->SR X.K H0 ps Z σ H Hi->tP X H0 ps Hi D o->t D σ H
inductive cw (X:Cx) (st:aas) (f:SF):Prop
 |mk (t:TS) (p:PS X st t) (q:Kt X f t)
def MX(X:Cx)(f:SF)(t:TS):Prop:=∀(H0:Hp×Hp) (ps:Nat->Option dn) (Z:DS) (σ:St) (H Hi:Hp) (o:Out) (D:Ends),f Z=al o->SR X.K H0 ps Z σ H Hi->tP X H0 ps Hi D o->t D σ H
inductive gS (X:Cx) (st:List aas) (f:SF):Prop
 |mk (t:TS) (p:gu X st t) (q:MX X f t)
def vL:SF:=λZ=>al<|.next Z
def lx(f g:SF):SF:=λZ=>(f Z).bind λo=>match o with
 |.next Z1=>g Z1
 |o=>al o
def m9(f:DF):SF:=λZ=>(f Z).map λp=>.next p.2
def mm(f:EF):SF:=λZ=>(f Z).map λp=>.ret p.1 p.2
def kj(c:BF)(f g:SF):SF:=λZ=>(c Z).bind λp=>if p.1=bi then f p.2 else g p.2
def jx(i:Nat)(f:EF):SF:=λZ=>(f Z).bind λp=>(mj i p.1 p.2).map .next
def Gm:gS X [] vL:={_,uo,λH0 ps Z σ H Hi o D e S k=>by$$$$$$e;$(k σ H Hi S<|aj.refl _)}
theorem GB{st:aas}{d:List aas}{f g:SF}(l:cw X st f)(m:gS X d g):gS X (st::d) (lx f g):=by
 let(t1,n,p):=l;let(t2,q,s):=m;$({_,ot n q,λH0 ps Z σ H Hi o D e S k=>?_});let(o1,t,e):=oA e;apply p H0 ps Z σ H Hi o1 _ t S;cases o1 with
 |next Z1=>$(λh H' j u s'=>s H0 ps Z1 h H' j o D e u (k.mono s'))
 |ret r Z1=>$$$$$$e;$k
 |brk Z1=>$$$$$$e;$k
 |cont Z1=>$$$$$$e;$k
 |exc C Z1=>$$$$$$e;$k
def xY (h:DD X e f)(hs:z8 e am pos.line X.env=pure false:=by rfl):cw X (.Expr e pos) (m9 f):=by let(t,p,q):=h;$({_,E9 p hs,λH0 ps Z σ H Hi o D e S k=>?_});let(d,Z1,j,e):=oN e;$$$$$$e;$(q H0 ps Z σ H Hi d Z1 _ j S λv H' g l s' _=>k σ H' g l s')
def NU (h:DE X e f):cw X (.Return (al e) pos) (mm f):=by let(t,p,q):=h;$({_,nI p,λH0 ps Z σ H Hi o D e S k=>?_});let(r,Z1,g,e):=oN e;$$$$$$e;$(q H0 ps Z σ H Hi r Z1 _ g S λv H' d j s' l=>k v σ H' d j s' l)
theorem zi{c:hF}{a b:List aas}{fc:BF}{fa fb:SF}(g:DT X c fc)(h:gS X a fa)(j:gS X b fb):cw X (.If c a b pos) (kj fc fa fb):=by
 let(tc,l,m):=g;let(ta,n,p):=h;let(tb,q,s):=j;$({_,uJ l n q,λH0 ps Z σ H Hi o D e S k=>?_});let(b,Z1,t,e):=oB e;$(m H0 ps Z σ H Hi b Z1 _ t S λH' d f s'=>?_);cases b with
 |true=>$(p H0 ps Z1 σ H' d o D e f (k.mono s'))
 |false=>$(s H0 ps Z1 σ H' d o D e f<|k.mono s')
end
def JW(K:f')(J:It)(items:List Dat)(e:Hp):Prop:=∀(i:Nat) (a:Hp),aj e a ->
 (∀d,items[i]?=al d->J.go i a/\∀x b,J.nZ i a x b->(b=a/\Rep K e d x)\/∃p o,a p=am/\b=upd a p o/\∀c,aj e c->c p=am->Rep K (upd c p o) d x) /\
 (items.length<=i->J.stop i a)
def JW.mono{K:f'}{J:It}{items:List Dat}{g f:Hp}(h:JW K J items g)(s:aj g f):JW K J items f:=λi m s'=>by
 let(j,q):=h i m<|s.trans s';$({λd e=>{(j d e).1,λx k y=>?_},q});let(a,b)||(p,o,a,b,c):=(j d e).2 x k y
 .$(ι {a,Rep.mono s b})
 $(τ {p,o,a,b,λl r n=>c l (s.trans r) n})
abbrev IF:=DS->Option (List Dat×DS)
def MW(X:Cx)(f:IF)(i:TI):Prop:=∀(c:Hp×Hp) (d:Nat->Option dn) (Z:DS) (b:St) (H e:Hp) (items:List Dat) (g:DS) (R:It->Hp->Prop),f Z=al (items,g)->SR X.K c d Z b H e ->
 (∀J h a,SR X.K c d g b h a->aj e a->JW X.K J items a->R J h)->i b H R
inductive dC (X:Cx) (tg iter:hF) (f:IF):Prop
 |mk (wi:TI) (p:PI X tg iter wi) (q:MW X f wi)
def Ng:Dat->Option (List Dat)
 |.L ds=>al ds
 |.U ds=>al ds
 |_=>am
def j8(f:DF):IF:=λZ=>(f Z).bind λp=>(Ng p.1).map λds=>(ds,p.2)
def eM(lo n:Int):List Dat:=(hE (n-lo).toNat).map λk:Nat=>.int<|lo+(k:Int)
def uD(f:AF):IF:=λZ=>(f Z).bind λp=>match p.1 with
 |[.int n]=>if -(2 ^ 62)<=n/\n<2 ^ 62 then al (eM 0 n,p.2)else am
 |_=>am
def uw(f:AF):IF:=λZ=>(f Z).bind λp=>match p.1 with
 |[.int lo,.int n]=>if -(2 ^ 62)<=lo/\lo<2 ^ 62/\-(2 ^ 62)<=n/\n<2 ^ 62 then al (eM lo n,p.2)else am
 |_=>am
section
variable{X:Cx}{tg:hF}
def PI.or (e:PI X tg iter c)(f:PI X tg iter d):PI X tg iter (λa H R=>c a H R\/d a H R):=λb s a H R I h=>h.elim (e b s a H R I)<|f b s a H R I
theorem Mg (h:DD X e f):dC X tg e (j8 f):=by
 let(t,p,q):=h;$({_,PI.or (LO p)<|M4 p,λs u Z w H z items Z' R c S k=>?_});let(d,Z1,A,c):=oB c;dsimp at c;cases d with
 |L ds =>
  $$$c;$(ι (q s u Z w H z _ _ _ A S λv m j l s' r=>?_));let(a,vs,rfl,b,rs):=r;$({a,ρ,{vs,ι<|Rd.mono l.sub b},k _ m j l s' λi B g=>{λd e=>?_,λhl=>{vs,ι<|Rd.mono g b,by rw[rs.length];$hl}}});let(x,ex,C):=rs.get e;$({{vs,x,ι<|Rd.mono g b,ex},λy D n=>ι ?_});let(rfl,o):=n;let:=o vs<|ι<|Rd.mono g b;simp!
 |U ds =>
  $$$c;$(τ (q s u Z w H z _ _ _ A S λv m j l s' r=>?_));let(a,vs,rfl,b,rs):=r;$({a,ρ,{vs,bf.mono l.sub b},k _ m j l s' λi B g=>{λd e=>?_,λhl=>{vs,bf.mono g b,by rw[rs.length];$hl}}});let(x,ex,C):=rs.get e;$({{vs,x,bf.mono g b,ex},λy D n=>ι ?_});let(rfl,o):=n;let:=o vs<|bf.mono g b;simp!
 |_=>$(nO c)
theorem J1{K:f'}{lo n:Int}{b:Hp}:JW K (rC lo (n-lo).toNat) (eM lo n) b:=λi H' _=>by
 $({λd e=>?_,λhl=>?_})
 .unfold eM at e;rw[dk]at e;let a:i<(n-lo).toNat:=by
   cases q:(hE (n-lo).toNat)[i]? with
   |none=>rw[q]at e;$(nO e)
   |some j=>$$$$((cn.1 q).1)
  rw[aaZ a]at e;$$$$$$e;$({a,λx H'' y=>ι ⟨y.1,y.2⟩})
 unfold eM at hl;rw[a8,me]at hl;$hl
def XZ (e:Gl X "range")(hm:X.mg "range"=am)(h:DA X [a] f)(hs:km [a] X.env=[(false,eval a X.env)]:=by rfl):dC X tg (.Call (.Name "range" p) [a] [] pos) (uD f):=by
 let(t,g,q):=h;$({_,M3 e hm g hs,λi j Z l H m items Z' R b S k=>?_});let(ds,Z1,o,b):=oB b;dsimp at b;$(q i j Z l H m ds Z1 _ o S λvs s c u s' r=>?_);$$$$$b
 .$$$$$b
  .ext1 n d;let(rfl,rfl):=sP b;let(v,r1,rfl,w,x):=r;$$w;$$x;$({n,ρ,d.1,d.2,?_});let:=k (rC 0 (n-0).toNat) s c u s' J1;rwa[acK]at this
  $(nO b)
 $(nO b)
def Mn (i:Gl X "range")(hm:X.mg "range"=am)(h:DA X [a,b] f)(hs:km [a,b] X.env=[(false,eval a X.env),(false,eval b X.env)]:=by rfl)(d:km [b] X.env=[(false,eval b X.env)]:=by rfl) :
  dC X tg (.Call (.Name "range" p) [a,b] [] pos) (uw f):=by
 let(t,j,q):=h;$({_,LQ i hm j hs d,λl m Z o H s items Z' R c S k=>?_});let(ds,Z1,u,c):=oB c;dsimp at c;$(q l m Z o H s ds Z1 _ u S λvs x e y s' r=>?_);$$$$$c
 .$$$$$c
  .ext1 lo n z;let(rfl,rfl):=sP c;let(v,r1,rfl,A,w,r2,rfl,g,B):=r;$$A;$$g;$$B;$({lo,n,ρ,z,k _ x e y s' J1})
  $(nO c)
 $(nO c)
end
def forLoop(g:GF)(fb:SF):List Dat->SF
 |[],Z=>al (.next Z)
 | x::xs,Z=>(g x Z).bind λZ1=>(fb Z1).bind λo=>match o with
  |.next Z2=>forLoop g fb xs Z2
  |.cont Z2=>forLoop g fb xs Z2
  |.brk Z2=>al (.next Z2)
  |.ret r Z2=>al (.ret r Z2)
  |.exc _ _=>am
def qV(fi:IF)(g:GF)(fb:SF):SF:=λZ=>(fi Z).bind λp=>forLoop g fb p.1 p.2
section
variable{X:Cx}{pos:u1}{P:hZ}{w:nL}{K:f'}{mg:eS->Option cm}{base:nk}{H0:Hp×Hp}{ps:Nat->Option dn}{σ:St}{psB:Nat->Option dn}{a b:hF}{ta tb:TE}{rest:List hF}{pins:List (dn×zI)}{H Hi:Hp}{s:cA}{Z:DS}{i:Nat}{io:Bool}{c c':Dat}{p:dn}{apos:u1}
theorem Um (hp:adk (hM X.prog X.w) X.A X.env X.xe)(hc:X.calm=bi)(U:dC X R iter fi)(hg:DG X R g)(hb:gS X body fb)(hs:∀x,um iter X.env x=pure x:=by ext _;rfl):cw X (.For R iter body [] pos) (qV fi g fb):=by
 let(wi,pi,qi):=U;let(tg',pg,qg):=hg;let(tb,pb,qb):=hb;$({_,Sg hp hc pi pg pb hs,λH0 ps Z σ H Hi o D e S k=>?_});let(items,Z1,e1,e):=oB e;$(qi H0 ps Z σ H Hi items Z1 _ e1 S λJ H1 B S1 T jw=>?_)
 refine⟨λi m q Q=>m=items.length-i/\i<=items.length/\∃I h,SR X.K H0 ps I q Q h/\aj B h/\forLoop g fb (items.drop i) I=al o,
  {items.length,⋯,nT _,Z1,B,S1,aj.refl _,by$$$$e},?_⟩
 ext i m q Q ⟨rfl,U,I,h,L,s',f⟩;let M:=jw i Q<|s'.trans L.sub;ext(N:i<items.length)
 .let V:=bt N;rw[aem N]at f;let(Z2,e2,f):=oA f;let(W,e3,f):=oA f;$(τ ⟨(M.1 _ V).1,λE Y=>∃j F,SR X.K H0 ps j E Y F/\aj B F/\forLoop g fb (items.drop<|i+1) j=al o,λE Y ⟨j,F,S3,s3,f3⟩=>{items.length-(i+1),⋯,ρ,N,j,F,S3,s3,f3},λx G y=>?_⟩);obtain⟨d,YA,YB,rx⟩:∃d,SR X.K H0 ps I q G d/\aj h d/\Rep X.K d items[i] x:=by
   let(rfl,r)||(p,ob,n,rfl,r):=(M.1 _ V).2 x G y
   .exact{h,L,aj.refl _,Rep.mono s' r}
   let(a,b):=L.laid n;$({_,a,b,r h s'<|L.dv n})
  refine qg H0 ps I q G d _ Z2 x _ e2 YA rx λE S2=>?_;apply qb H0 ps Z2 E G d W _ e3 S2;let sm:=s'.trans YB;cases W with
  |next j=>$(λt O l u z=>{j,l,u,sm.trans z,f})
  |cont j=>$(λt O l u z=>{j,l,u,sm.trans z,f})
  |brk j=>$$$$$$f;$(λt O l u z=>k t O l u ((T.trans sm).trans z))
  |ret r j=>$$$$$$f;$(λv t O l u z rr=>k v t O l u ((T.trans sm).trans z) rr)
  |exc C j=>$(nO f)
 let ei:i=items.length:=by lia
 subst ei;rw[afW]at f;$$$$$$f;$(ι {M.2<|eT _,k q Q h L<|T.trans s'})
def iD(c:BF)(fb:SF):Nat->SF
 |0,_=>am
 | n+1,Z=>(c Z).bind λp=>if p.1=bi then(fb p.2).bind (λo=>match o with
   |.next Z2=>iD c fb n Z2
   |.cont Z2=>iD c fb n Z2
   |.brk Z2=>al (.next Z2)
   |.ret r Z2=>al (.ret r Z2)
   |.exc _ _=>am)else al (.next p.2)
theorem WX{c:hF}{body:List aas}{fc:BF}{fb:SF}(n:Nat)(M:adk (hM X.prog X.w) X.A X.env X.xe)(N:DT X c fc)(O:gS X body fb):cw X (.While c body [] pos) (iD fc fb n):=by
 let(tc,Q,R):=N;let(tb,T,U):=O;$({_,MZ M Q T,λH0 ps Z σ H Hi o D e S k=>?_});$(⟨λm h E=>∃z t,SR X.K H0 ps z h E t/\aj Hi t/\iD fc fb m z=al o,{n,Z,Hi,S,aj.refl _,e},?_⟩);ext m h E ⟨z,t,V,s',d⟩;cases m with
 |zero=>$(nO d)
 |succ m =>
  let(b,Z1,W,d):=oB d;$(R H0 ps z h E t b Z1 _ W V λF x G I=>?_);cases b with
  |false=>$$$$$$d;$(k h F x G (s'.trans I))
  |true =>
   let d:((fb Z1).bind λo=>match o with
    |.next Z2=>iD fc fb m Z2
    |.cont Z2=>iD fc fb m Z2
    |.brk Z2=>al (.next Z2)
    |.ret r Z2=>al (.ret r Z2)
    |.exc _ _=>am)=al o:=d
   $(⟨λB J=>∃f u,SR X.K H0 ps f B J u/\aj Hi u/\iD fc fb m f=al o,λB J ⟨f,u,Y,s3,f3⟩=>{m,aaU _,f,u,Y,s3,f3},?_⟩);let(L,e3,d):=oA d;apply U H0 ps Z1 h F x L _ e3 G;let sm:=s'.trans I;cases L with
   |next f=>$(λj y g l q=>{f,g,l,sm.trans q,d})
   |cont f=>$(λj y g l q=>{f,g,l,sm.trans q,d})
   |brk f=>$$$$$$d;$(λj y g l q=>k j y g l (sm.trans q))
   |ret r f=>$$$$$$d;$(λv j y g l q rr=>k v j y g l (sm.trans q) rr)
   |exc C f=>$(nO d)
def js:AF:=λZ=>al ([],Z)
def gz(f:DF)(g:AF):AF:=λZ=>(f Z).bind λp=>(g p.2).map λq=>(p.1::q.1,q.2)
def uN(f:AF):EF:=λZ=>(f Z).bind λp=>if p.1.length<=c6 then al (.O<|.L p.1,p.2)else am
def xj(f:AF):DF:=λZ=>(f Z).bind λp=>if p.1.length<=c6 then al (.U p.1,p.2)else am
def Ym:DA X [] js:={_,fF,λH0 ps Z σ H Hi ds Z' Q e S k=>by let(rfl,rfl):=sP e;$(k [] H Hi S (aj.refl _) ρ)}
def WQ (o:DD X e f)(q:DA X h g)(hs:bD X e h:=by rfl):DA X (e::h) (gz f g):=by let(t1,r,t):=o;let(t2,u,x):=q;$({_,bW r u hs,λH0 ps Z σ H Hi ds Z' Q e S k=>?_});let(d,Z1,y,e):=oB e;let(j,Z2,z,e):=oN e;let(rfl,rfl):=sP e;$(t H0 ps Z σ H Hi d Z1 _ y S λv A l B C D=>?_);$(x H0 ps Z1 σ A l j _ _ z B λvs E m F n G=>k (v::vs) E m F (C.trans n) {v,vs,ρ,Rep.mono n D,G})
def ML (h:DA X j f):DE X (.List j pos) (uN f):=by
 let(t,p,q):=h;$({_,Nc p,λH0 ps Z σ H Hi r Z' Q e S k=>?_});let(ds,Z1,n,e):=oB e;$$$$$e
 .ext1 hz;let(rfl,rfl):=sP e;$(q H0 ps Z σ H Hi ds _ _ n S λvs H1 l d o m=>{by rw[m.length];$hz,λp g=>?_});$(k (.ref p) _ l (d.made g) o {p,ρ,{_,a9,m,d.dv g},(d.bJ g).2,(d.bJ g).1,d.dM g})
 $(nO e)
def Oi {m}(h:DA X g f):DD X (.Tuple g m pos) (xj f):=by
 let(t,p,q):=h;$({_,pd p,λH0 ps Z σ H Hi d Z' Q e S k=>?_});let(ds,Z1,n,e):=oB e;$$$$$e
 .ext1 hz;let(rfl,rfl):=sP e;$(q H0 ps Z σ H Hi ds _ _ n S λvs H1 Hi1 r u j=>{by rw[j.length];$hz,λp v=>?_});let(x,l):=r.laid v;$(k (.ref p) _ _ x (u.trans l) {p,vs,ρ,bf.of a9,aB.mono l j})
 $(nO e)
abbrev aS:=List Dat->Option Res
def RC(K:f')(H f e:Hp)(v:V):Res->Prop
 |.D d=>Rep K e d v
 |.O c=>∃p,v=.ref p/\cW K f e p c/\H p=am
def aF(K:f')(fn:aS):Sp:=λvs H Q _=>∃Hi ds r,aj Hi H/\aB K Hi ds vs/\fn ds=al r /\
 ∀v e d,aj H e->aj Hi d->aj d e->(∀p o,d p=al o->iB Hi H p o)->RC K H e d v r->Q v e
abbrev fq:=Dat->List Dat->Option (Res×Dat)
def fR(K:f')(j:Nat)(fn:fq):Sp:=λvs H Q _=>∃Hi p c ds r c',aj Hi H/\vs[j]?=al (.ref p)/\cW K H Hi p c/\aB K Hi ds (vs.eraseIdx j)/\fn c ds=al (r,c') /\
 ∀v e d,(∀b o,H b=al o->b≠p->e b=al o)->aj Hi d->aj d e->(∀p o,d p=al o->iB Hi H p o)->cW K e d p c'->RC K H e d v r->Q v e
theorem SR.after (S:SR K H0 ps Z σ H Hi)(s:aj H g)(k:aj Hi f)(m:aj f g)(nw:∀p o,f p=al o->iB Hi H p o)(t:RC K H g f v r):SR K H0 ps Z σ g f/\RR K H0 ps Z σ g f v r:=by
 let O:∀{q:dn}{c:Dat},cW K H Hi q c->cW K g f q c:=λ{q c} h=>by
  let((o,e),n):=h.some;apply h.keeps ((s q o e).trans e.symm) k;cases z:f q with
  |none=>rfl
  |some u=>let w||w||(vs,w):=nw q u z;simp!;simp!;$$w;let:=m _ _ z;rw[s q o e]at this;$$$$$$this;$((h.nt e).elim)
 $({{m,λb o e n=>s b o<|S.keep b o e n,λp l z=>?_,λi d e=>?_,λi c e=>?_,λi c e=>?_,S.ne,S.len,λp o e=>?_},?_})
 .cases e:H p with
  |none=>$(S.gq p l e)
  |some o=>rw[s p o e]at z;lk
 .let(w,a,b):=S.D i d e;$({w,a,Rep.mono k b})
 .let(q,a,b,j,x):=S.O i c e;$({q,a,O b,j,x})
 .let(q,a,b,j):=S.io i c e;$({q,a,O b,j})
 .let z||z||z:=nw p o e
  .$(S.nw p o z)
  .$(τ<|ι (S.bJ z).1)
  $(τ<|τ z)
 cases r with
 |D d=>$t
 |O c=>let(p,e,o,n):=t;$({p,e,o,(S.bJ n).2,(S.bJ n).1,S.dM n})
def bT(fn:aS)(fa:AF):EF:=λZ=>(fa Z).bind λp=>(fn p.1).map λr=>(r,p.2)
structure By (X:Cx) (x:eS) (sp:Sp):Prop where
 gl:Gl X x
 is:∃(CX:jq) (k:Nat) (f:dn) (fd:hO) (pn:List eS),aV X.prog X.w X.K X.mg X.base CX k f fd pn sp/\cF k X.A/\X.mg x=al (.ref f)/\acF X.K (.ref f)=bi/\Binds X.K fd pn []/\vQ CX X E0
def LM{x:eS}{e:hF}{g:List hF}{fn:aS}{fa:AF}{p:u1}(h:By X x (aF X.K fn))(y:DA X (e::g) fa)(j:bz x:=by decide)
 (z:bD X e g:=by rfl)(l:(T' pos<|km g X.env).any (·.1)=bn:=by rfl):DE X (.Call (.Name x p) (e::g) [] pos) (bT fn fa):=by
 let(A,CX,k,f,fd,pn,F,B,hm,C,D,E):=h;let(t,G,q):=y;$({_,Ag F B A hm C D .nil E G j z l,λH0 ps Z σ H Hi r Z' Q d S k=>?_});let(ds,Z1,I,d):=oB d;let(r2,J,d):=oM d;let(rfl,rfl):=sP d;$(q H0 ps Z σ H Hi ds _ _ I S λvs H1 m n L M=>?_);$({m,ds,_,n.sub,by rw[nS];$M,J,λv N o O u R T U=>?_});let(V,W):=n.after O u R T U;$(k v N o V (L.trans u) W)
def eJ(n:Nat)(ds:List Dat):DS:=ds.map Slot.D++nE (n-ds.length) .no
def jg(n:Nat)(f:SF):aS:=λds=>(f<|eJ n ds).bind λo=>match o with
 |.next _=>al (.D .aG)
 |.ret r _=>al r
 |_=>am
def Jj (s:aj Hi H)(r:aB K Hi ds vs):SR K (H,Hi) (λ_=>am) (eJ N.length ds) (start N vs) H Hi:=by
 let hl:=r.length;let f:∀{i:Nat}{s:Slot},(eJ N.length ds)[i]?=al s->(∃d,s=.D d/\ds[i]?=al d)\/s=.no:=λ{i s} h=>by
  delta eJ at h;ext(m:i<ds.length)
  .rw[kH (by$$$$m),dk]at h;simp!
  rw[kq (by$$$$m)]at h;rw[acu]at h;$$$$$h
  .$$$$$$h;$(τ ρ)
  $(nO h)
 $({s,λb o e _=>e,λp l=>?_,λi d e=>?_,λi c e=>?_,λi c e=>?_,λi j c c' p k h2=>?_,?_,λp o e=>ι e})
 .let(_,z):=l;$(nO z)
 .let (d',g,h)||g:=f e
  .$$$g;let(v,a,b):=r.get h;$({v,?_,b});$$(start);rw[kH (by$$$$((cn.1 a).1)),dk,a];rfl
  lk
 .let (d',g,h)||g:=f e<;>lk
 .let (d',g,h)||g:=f e<;>lk
 .let k||k:=k<;>(let(d',g,h)||g:=f k<;>lk)
 simp![eJ,start]
theorem DJ{x u:eS}{st:aas}{f:dn}{D:hO}{N ps:List eS}{k:Nat}{fn:aS}{fb:SF}(F:bb K x u st f D)(S:br N ps (aQ st))(B:∀ds r,fn ds=al r->ds.length=ps.length)
 (J:∀(y:cm) (A:ow) (outer:List Env) (s:cA) (H:Hp) (E:XK),cF k (A.deeper<|abw u (aQ st) s.heap.objs.size f y)->gS (eV bc P w K mg base N u (aQ st) f y A outer s H E).jt (g9 st) fb)
 (L:∀ds r,fn ds=al r->jg N.length fb ds=al r):aV P w K mg base bc (k+1) f D ps (aF K fn):=by
 $(F.ok S (λvs H Q E h=>?_)<|λy A outer s H vs Q E M h=>?_)
 .let(Hi,ds,r,s,rs,e,_):=h;rw[rs.length];$(B ds r e)
 let(Hi,ds,r,sm,rs,e,G):=h;let(t,p,q):=J y A outer s H E M;$({t,p,?_});let l:=L ds r e;let(o,O,l):=oA l;let nw:∀{Z:DS}{m:St}{n g:Hp},SR K (H,Hi) (λ_=>am) Z m n g->∀p o,g p=al o->iB Hi H p o:=λj p o e=>j.nw p o e;let kp:∀{Z:DS}{m:St}{n g:Hp},SR K (H,Hi) (λ_=>am) Z m n g->aj H n:=λj b o e=>j.keep b o e<|λ⟨_,z⟩=>by$(nO z)
 apply q (H,Hi) (λ_=>am) (eJ N.length ds) (start N vs) H Hi o _ O<|Jj sm rs;cases o with
 |next Z=>$$$$$$l;$(λm n g j s'=>G .aG n g (kp j) s' j.sub (nw j) ρ)
 |ret r' Z =>
  $$$l;$(λv m n g j s' I=>G v n g (kp j) s' j.sub (nw j) ?_);cases r with
  |D d=>$I
  |O c=>let(p,R,o,np,T,_):=I;$(⟨p,R,o,T⟩)
 |brk Z=>$(nO l)
 |cont Z=>$(nO l)
 |exc C Z=>$(nO l)
def l9(K:f')(f:DF):TE:=λσ H Q=>∃H0 ps Z Hi d g,f Z=al (d,g)/\SR K H0 ps Z σ H Hi/\∀v h e,SR K H0 ps g σ h e->aj Hi e->Rep K e d v->Q v h
def mO(K:f')(f:BF):TT:=λσ H Q=>∃H0 ps Z Hi d g,f Z=al (d,g)/\SR K H0 ps Z σ H Hi/\∀h e,SR K H0 ps g σ h e->aj Hi e->Q d h
def mi(K:f')(g:GF):TG:=λv σ H Q=>∃H0 ps Z Hi d f,g d Z=al f/\SR K H0 ps Z σ H Hi/\Rep K Hi d v/\∀e,SR K H0 ps f e H Hi->Q e H
def DD.oH (h:DD X e f):PE X e (l9 X.K f):=by let(t,p,q):=h;ext pins s σ H Q I ⟨H0,ps,Z,Hi,d,g,j,S,k⟩;$(p pins s σ H Q I<|q H0 ps Z σ H Hi d g Q j S k)
def DG.oH (h:DG X e g):PG X e (mi X.K g):=by let(t,p,q):=h;ext pins s σ H v u Q I r ⟨H0,ps,Z,Hi,d,f,j,S,l,k⟩;$(p pins s σ H v u Q I r<|q H0 ps Z σ H Hi d f v Q j S l k)
def mf(X:Cx)(ifs:List hF)(f:BF):Prop:=PF X ifs<|mO X.K f
theorem OD{X:Cx}:mf X [] (λZ=>al (true,Z)):=by ext pins s σ H Q I ⟨H0,ps,Z,Hi,d,Z',e,S,k⟩;let(rfl,rfl):=sP e;$(Lh pins s σ H Q I<|k H Hi S<|aj.refl _)
def NR{X:Cx}{c:hF}{f:BF}(h:DT X c f):mf X [c] f:=by let(t,p,q):=h;ext pins s σ H Q I ⟨H0,ps,Z,Hi,d,e,g,S,k⟩;$(Vt p pins s σ H Q I<|q H0 ps Z σ H Hi d e Q g S k)
def noOwn(Z:DS):Bool:=Z.all λs=>match s with|.O _=>false|_=>true
theorem IY{Z:DS}(h:noOwn Z=bi){i:Nat}{c:Dat}:Z[i]?≠al (.O c):=λe=>by let:=kz.1 h _<|eH e;lk
def bA(d:Option (Nat×Nat)):List (Option Nat)->DS->DS
 |[],Z=>Z
 | o::r,Z=>bA d r (match o with
  |some j=>if d.map agi=al j then Z else(match Z[j]? with|some (.O c)=>Z.set j (.D c)|_=>Z)
  |none=>Z)
def cz(caps:List (Option Nat))(Z:DS):DS:=caps.map λo=>match o with
 |some j=>(match Z[j]? with|some (.D d)=>.D d|_=>.no)
 |none=>.no
def compLoop(g:GF)(fc:BF)(fe:DF):List Dat->List Dat->DS->Option (List Dat×DS)
 |[],d,Z=>al (d,Z)
 | x::xs,d,Z=>(g x Z).bind λZ1=>(fc Z1).bind λp=>if p.1=bi then(fe p.2).bind λq=>if d.length<c6/\noOwn q.2=bi then compLoop g fc fe xs (d++[q.1]) q.2 else am
   else if noOwn p.2=bi then compLoop g fc fe xs d p.2 else am
def fD(caps:List (Option Nat))(d:Option (Nat×Nat))(fi:IF)(g:GF)(fc:BF)(fe:DF):EF:=λZ=>(fi Z).bind λp =>
 let Z1:=bA d caps p.2
 match d with
 |none=>(compLoop g fc fe p.1 []<|cz caps Z1).map λq=>(.O<|.L q.1,Z1)
 | some (k,j)=>if caps[k]?=al (al j)then(match Z1[j]? with
  |some (.O c)=>(compLoop g fc fe p.1 []<|(cz caps Z1).set k (.io c)).bind λq=>(match q.2[k]? with|some (.io c')=>al (.O<|.L q.1,Z1.set j<|.O c')|_=>am)
  |some (.io c)=>(compLoop g fc fe p.1 []<|(cz caps Z1).set k (.io c)).bind λq=>(match q.2[k]? with|some (.io c')=>al (.O<|.L q.1,Z1.set j<|.io c')|_=>am)
  |_=>am)else am
theorem qT(d):∀(caps:List (Option Nat)) {Z:DS}{H Hi:Hp},SR K H0 ps Z σ H Hi->∃f,SR K H0 ps (bA d caps Z) σ H f/\aj Hi f
 |[],_,_,Hi,S=>{Hi,S,aj.refl _}
 |none::r,_,_,_,S=>qT d r S
 | some j::r,Z,H,Hi,S=>by
  $$(bA);dsimp;ext(hl:d.map agi=al j)
  .rw[if_pos hl];$(qT d r S)
  rw[if_neg hl];split
  .ext1 c e;let(Hi1,v,_,h,k,_):=S.Ec e;let(g,l,m):=qT d r h;$({g,l,k.trans m})
  $(qT d r S)
def SR.rebase (S:SR K H0 ps Z σ H Hi)(n:noOwn Z=bi):SR K (H,Hi) ps Z σ H Hi :=
 {S.sub,λb o e _=>e,S.gq,S.D,λi c e=>absurd e<|IY n,S.io,S.ne,S.len,λp o e=>ι e}
theorem FE{caps:List (Option Nat)}{Z:DS}{k:Nat}{d:Dat}(h:(cz caps Z)[k]?=al (.D d)):∃j:Nat,caps[k]?=al (al j)/\Z[j]?=al (.D d):=by
 unfold cz at h;rw[dk]at h;cases e:caps[k]? with
 |none=>rw[e]at h;$(nO h)
 |some o =>
  rw[e]at h;cases o with
  |none=>$$$h
  |some j=>$({j,ρ,?_});simp at h;$$$$$h;simp!;lk
theorem oV{caps:List (Option Nat)}{Z:DS}{k:Nat}{c:Dat}:(cz caps Z)[k]?≠al (.O c)/\(cz caps Z)[k]?≠al (.io c):=by
 delta cz;rw[dk];cases e:caps[k]? with
 |none=>simp
 |some o =>
  cases o with
  |none=>simp
  |some j =>
   simp?[v3];constructor
   all_goals
    ext z;let z:=Option.some.inj z;$$$$$z<;>lk
def Cc{caps:List (Option Nat)}{k j:Nat}{v:V}(h:caps[k]?=al (al j))(e:σ[j]?=al (al v)):(fV caps σ)[k]?=al (al v):=by simp![fV]
def OY (S:SR K H0 ps Z σ H Hi):SR K (H,Hi) (λ_=>am) (cz caps Z) (fV caps σ) H Hi:=by
 $({S.sub,λb o e _=>e,λp l=>?_,λk d e=>?_,λk c e=>absurd e oV.1,λk c e=>absurd e oV.2,λk k' c c' p h=>?_,?_,λp o e=>ι e})
 .let(_,z):=l;$(nO z)
 .let(j,f,g):=FE e;let(v,a,b):=S.D j d g;$({v,Cc f a,b})
 .let h||h:=h
  .$(absurd h oV.1)
  $(absurd h oV.2)
 simp[cz,fV]
theorem EK {Qf:Hp->Prop}(S0:SR K (A,j) psB R YB A j)(n0:noOwn R=bi)(T:A D=am)(jw:JW K J items j)(ef:compLoop g fc fe items [] R=al (L,Ze))(YQ:∀k f d vs,SR K (f,d) psB Ze k f d->aj j d->(∀b o,A b=al o->¬iH psB b->f b=al o)->(∀p o,d p=al o->iB j A p o)->f D=al (.L vs)->aB K d L vs->d D=am->Qf f) :
  ∃W:Nat->Nat->St->Hp->Prop,(∃m,W 0 m YB<|upd A D<|.L [])/\∀i m k f,W i m k f->(J.stop i f/\Qf f)\/(J.go i f/\∀x C,J.nZ i f x C->mi K g x k C λE H2=>mO K fc E H2 λb H3 =>
   if b=bi then l9 K fe E H3 λy F=>∃ys,F D=al (.L ys)/\ys.length<c6/\∃M,M<m/\W (i+1) M E (upd F D<|.L<|ys++[y])
   else∃M,M<m/\W (i+1) M E H3):=by
 let nl:¬iH psB D:=λl=>S0.gq D l T;let YC:=S0.dv T;let N:∀{Z:DS}{σ:St}{H Hi:Hp}{H0:Hp×Hp}(vs:List V),SR K H0 psB Z σ H Hi->noOwn Z=bi->Hi D=am->SR K (upd H D<|.L vs,Hi) psB Z σ (upd H D<|.L vs) Hi:=λ{Z σ H Hi H0} vs S n hd=>by
  refine{xG S.sub hd,λb o e _=>e,λp l=>?_,S.D,λi c e=>absurd e<|IY n,λi c e=>?_,S.ne,S.len,λp o e=>ι e}
  .let hp:p≠D:=λz=>nl (by rw[<-z];$l);rw[aA hp];$(S.gq p l)
  let(q,a,b,c1):=S.io i c e;let hq:q≠D:=λz=>nl (by rw[<-z];$(⟨i,c1⟩));$({q,a,b.keeps (aA hq) (aj.refl _) b.some.2,c1})
 refine⟨λi m k f=>m=items.length-i/\i<=items.length/\∃Z d G vs,SR K (f,d) psB Z k f d/\noOwn Z=bi/\aj j d/\(∀b o,A b=al o->¬iH psB b->f b=al o)/\(∀p o,d p=al o->iB j A p o) /\
   f D=al (.L vs)/\aB K d G vs/\d D=am/\compLoop g fc fe (items.drop i) G Z=al (L,Ze),
  {items.length,⋯,nT _,R,j,[],[],N [] S0 n0 YC,n0,aj.refl _,λb o e _=>by rw[aA (dE e T)];$e,λp o e=>ι e,a9,ρ,YC,by$$$$ef},?_⟩
 ext i m k f ⟨rfl,hi,Z,d,G,vs,S,n,sm,kb,nb,U,Y,hd,h⟩;let O:=jw i f<|sm.trans S.sub;let base:∀{p:dn},f p=am->A p=am:=λ{p} z=>by
  cases e:A p with
  |none=>rfl
  |some o =>
   ext(l:iH psB p)
   .exact absurd z<|S.gq p l
   rw[kb p o e l]at z;lk
 ext(I:i<items.length)
 .let eg:=bt I;rw[aem I]at h;let(Z1,e2,h):=oA h;let(b,Z2,e3,h):=oB h;dsimp at h;$(τ {(O.1 _ eg).1,λx C y=>?_});obtain⟨t,YU,Q,rx⟩:∃t,SR K (f,d) psB Z k C t/\aj d t/\Rep K t items[i] x:=by
   let(rfl,r)||(p,ob,nn,rfl,r):=(O.1 _ eg).2 x C y
   .exact{d,S,aj.refl _,Rep.mono sm r}
   let(a,b):=S.laid nn;$({_,a,b,r d sm<|S.dv nn})
  refine{(f,d),psB,Z,t,_,Z1,e2,YU,rx,λE S2=>?_};$({(f,d),psB,Z1,t,b,Z2,e3,S2,λH3 YD S3 s3=>?_});let kp:∀{Z4:DS}{YE:St}{F u:Hp},SR K (f,d) psB Z4 YE F u->F D=al (.L vs)/\u D=am/\(∀b o,A b=al o->¬iH psB b->F b=al o)/\(∀p o,u p=al o->iB j A p o):=λ{Z4 YE F u} B=>by
   refine{B.keep D _ U nl,?_,λb o e l=>B.keep b o (kb b o e l) l,λp o e=>?_}
   .cases z:u D with
    |none=>rfl
    |some o =>
     let w||w||(ts,w):=B.nw D o z
     .let w:d D=al o:=w;rw[hd]at w;$(nO w)
     .let w:f D=am:=w;rw[U]at w;lk
     subst w;let t1:=B.sub _ _ z;rw[B.keep D _ U nl]at t1;$$$t1
   let w||w||w:=B.nw p o e
   .exact nb p o w
   .exact τ<|ι<|base w
   exact τ<|τ w
  cases b with
  |false =>
   simp?[kB,if_false]at h;$$$$$h
   .ext1 n2;let(a1,a2,a3,a4):=kp S3;$({items.length-(i+1),⋯,ρ,I,Z2,YD,G,vs,S3.rebase n2,n2,(sm.trans Q).trans s3,a3,a4,a1,aB.mono (Q.trans s3) Y,a2,h})
   exact nO h
  |true =>
   let(yd,Z3,e4,h):=oB h;$$$$$h
   .ext1 hz;$({(f,d),psB,Z2,YD,yd,Z3,e4,S3,λv F u B s4 ry=>?_});let(a1,a2,a3,a4):=kp B;let sa:=(Q.trans s3).trans s4;$({vs,a1,by rw[Y.length];$(hz.1),items.length-(i+1),⋯,ρ,I,Z3,u,G++[yd],vs++[v],N _ B hz.2 a2,hz.2,sm.trans sa,λb o e l=>?_,a4,a9,aB.append (aB.mono sa Y) {v,[],ρ,ry,ρ},a2,h});rw[aA (dE e T)];$(a3 b o e l)
   exact nO h
 let ei:i=items.length:=by lia
 subst ei;rw[afW]at h;$$$h;$(ι {O.2<|eT _,YQ k f d vs S sm kb nb U Y hd})
theorem EZ:noOwn (cz caps Z)=bi:=by
 delta noOwn;rw[kz];ext s hs;let(k,d):=List.getElem?_of_mem hs;cases s with
 |O c=>$(absurd d oV.1)
 |_=>rfl
def G9 (y:∀(H0:Hp×Hp) (ps:Nat->Option dn) (Z:DS) (σ:St) (H Hi:Hp) (items:List Dat) (j:DS) (R:It->Hp->Prop),fi Z=al (items,j)->SR X.K H0 ps Z σ H Hi->(∀J m h,SR X.K H0 ps j σ m h->aj Hi h->JW X.K J items h->R J m)->n σ H R)(H0)(ps)(Z)(σ)(H Hi)(r)(j)(Q)(f:fD caps am fi g fc fe Z=al (r,j))(S:SR X.K H0 ps Z σ H Hi)(k:∀v l d,SR X.K H0 ps j σ l d->aj Hi d->RR X.K H0 ps j σ l d v r->Q v l):xA (fV caps) n (mi X.K g) (mO X.K fc) (l9 X.K fe) σ H Q:=by
 let(items,Z1,A,f):=oB f;dsimp at f;let(q,Ze,B,f):=oN f;let(rfl,rfl):=sP f;$(y H0 ps Z σ H Hi items Z1 _ A S λJ m h C E F=>?_);ext D t;let(Hi2,u,x):=qT am caps C;$(EK (OY u) EZ t (F.mono x) B λσ' l d vs G sm kb I L M hd=>?_);let N:aj m l:=λb o e=>kb b o e<|λ⟨_,z⟩=>by$(nO z)
 let(O,T):=u.after (r:=.O<|.L q) N sm G.sub I {D,ρ,⟨vs,L,M,hd⟩,t};$(k (.ref D) l d O ((E.trans x).trans sm) T)
def OV (j:X.calm=bi)(B:jW X.env.scope scope)(h:iG X.N NB scope caps=bi)(k:dC X f iter fi)(l:∀(cl:List (eS×dn)) (C:dn) (d:cA) (H:Hp) (e:List dn),DG (cy X NB scope cl C d H e) f g)(m:∀(cl:List (eS×dn)) (C:dn) (d:cA) (H:Hp) (e:List dn),mf (cy X NB scope cl C d H e) ifs fc)(n:∀(cl:List (eS×dn)) (C:dn) (d:cA) (H:Hp) (e:List dn),DD (cy X NB scope cl C d H e) elt fe)(hs:∀x,um iter X.env x=pure x:=by ext _;rfl) :
  DE X (.ListComp elt [{f,iter,ifs,0}] scope pos) (fD caps am fi g fc fe):=by
 let(wi,o,q):=k;$({_,Kd (tc:=mO X.K fc) j B h o (λcl C d H e=>{(l cl C d H e).oH,m cl C d H e,(n cl C d H e).oH}) hs,G9 q})
def Uw (i:Nat)(t:X.N.Nodup)(m:X.N[i]?=al y)(u:Loc X.env.scope y)(z:X.fn y=bi\/X.env.scope.names.lookup y=some .local)(A:X.calm=bi)(B:jW X.env.scope scope)(l:iG X.N NB scope caps=bi)(E:dC X j iter fi)(F:∀(cl:List (eS×dn)) (C:dn) (d:cA) (H:Hp) (f:List dn),DG (cy X NB scope cl C d H f) j g)(G:∀(cl:List (eS×dn)) (C:dn) (d:cA) (H:Hp) (f:List dn),mf (cy X NB scope cl C d H f) ifs fc)(I:∀(cl:List (eS×dn)) (C:dn) (d:cA) (H:Hp) (f:List dn),DD (cy X NB scope cl C d H f) elt fe)(n:z8 (.ListComp elt [{j,iter,ifs,0}] scope pos) (al<|.Name y py) h.line X.env=pure true)(hs:∀x,um iter X.env x=pure x:=by ext _;rfl) :
  cw X (.Assign [.Name y py] (.ListComp elt [{j,iter,ifs,0}] scope pos) h) (jx i<|fD caps am fi g fc fe):=by
 let(wi,J,L):=E;$({_,Uk (g:=mi X.K g) (tc:=mO X.K fc) (te:=l9 X.K fe) t m u A B l J (λcl C d H f=>{(F cl C d H f).oH,G cl C d H f,(I cl C d H f).oH}) n hs z,λH0 ps Z σ H Hi o D e S k=>?_});let(r,Z1,M,e):=oB e;let(Z2,O,e):=oM e;$$$$$$e;$(G9 L H0 ps Z σ H Hi r Z1 _ M S λv Q q R s' T=>k _ Q q (R.put T O) s')
def Ny(K:f')(ta tb:TE):TE:=λσ H Q=>ta σ H λx d=>∃c,qD K x d c/\if c=bi then Q x d else tb σ d Q
def UJ(K:f')(ta tb:TE):TE:=λσ H Q=>ta σ H λx d=>∃c,qD K x d c/\if c=bi then tb σ d Q else Q x d
theorem Yq(k:PE X a ta)(l:PE X (.BoolOp .Or (b::rest) pos) tb):PE X (.BoolOp .Or (a::b::rest) pos) (Ny X.K ta tb):=by
 $(λpins s σ H Q I h=>BoolOp_or (aI (k pins s σ H _ I h) λv m q=>?_));let(x,e,n,f,c,tc,g):=q;$(aI (wR pins m σ e x v (λc' d=>c'=c/\d=e) n f ⟨c,tc,ρ,ρ⟩) λc' o h=>?_);let(d,j,q,r):=h;subst q r;cases c' with
 |false=>$(l pins o σ d Q j g)
 |true=>$(⟨x,d,j,f,g⟩)
theorem U1(k:PE X a ta)(l:PE X (.BoolOp .And (b::rest) pos) tb):PE X (.BoolOp .And (a::b::rest) pos) (UJ X.K ta tb):=by
 $(λpins s σ H Q I h=>BoolOp_and (aI (k pins s σ H _ I h) λv m q=>?_));let(x,e,n,f,c,tc,g):=q;$(aI (wR pins m σ e x v (λc' d=>c'=c/\d=e) n f ⟨c,tc,ρ,ρ⟩) λc' o h=>?_);let(d,j,q,r):=h;subst q r;cases c' with
 |true=>$(l pins o σ d Q j g)
 |false=>$(⟨x,d,j,f,g⟩)
def Lz(K:f')(ta:TE):TE:=λσ H Q=>ta σ H λx d=>∃c,qD K x d c/\Q (.bl<|!c) d
def M0(f:PE X a ta):PE X (.UnaryOp .Not a pos) (Lz X.K ta):=by$(λpins s σ H Q I h=>UnaryOp_ (aI (f pins s σ H _ I h) λv g q=>?_));let(x,e,j,k,c,tc,l):=q;$(not_of (aI (wR pins g σ e x v (λc' d=>c'=c/\d=e) j k ⟨c,tc,ρ,ρ⟩) λc' s2 h=>?_));let(d,m,n,o):=h;subst n o;$({.bl<|!c',d,m,ρ,l})
def mU:Dat->Option Bool
 |.aG=>al false
 |.bl b=>al b
 |.int i=>al (i != 0)
 |.str x=>if x.length<=c6 then al ((x.length:Int) != 0)else am
 |.L ds=>al (!ds.isEmpty)
 |.U ds=>al (!ds.isEmpty)
 |.bK d=>al (!d.isEmpty)
 |.exc _=>am
 |.ins _ _=>am
 |.bQ _=>am
 |.adr _=>am
 |.cN _=>am
 |.bh _ _=>am
def B1{d e:Type}{xs:List d}{ys:List e}(h:xs.length=ys.length):xs.isEmpty=ys.isEmpty:=by
 $$$xs<;>$$$ys<;>first|rfl|(simp at h)
theorem bO.length{K:f'}{H:Hp}:∀{d:List (eS×Dat)}{kvs:List (Key×V)},bO K H d kvs->kvs.length=d.length
 |[],_,h=>by rw[show _=[]from h];rfl
 |(_,_)::_,_,f=>by let(v,r,e,q,t):=f;simp?[e,g8,g8,bO.length t]
theorem xO{K:f'}{H Hi:Hp}{d:Dat}{v:V}{c:Bool}(s:aj Hi H)(r:Rep K Hi d v)(e:mU d=al c):qD K v H c:=by
 cases d with
 |aG=>$$r;$$$$$$e;$ρ
 |bl b=>$$r;$$$$$$e;$ρ
 |int i=>$$r;$$$$$$e;$ρ
 |str x =>
  $$r;let e:(if x.length<=c6 then al ((x.length:Int) != 0)else am)=al c:=e;$$$$$e
  .ext1 hz;$$$$$$e;$(⟨hz,ρ⟩)
  $(nO e)
 |L ds=>let(p,vs,rfl,q,rs):=r;$$$e;$(ι {vs,ι<|Rd.mono s q,by rw[B1 rs.length]})
 |U ds=>let(p,vs,rfl,q,rs):=r;$$$e;$(τ (ι {vs,bf.mono s q,by rw[B1 rs.length]}))
 |bK f=>let(p,vs,rfl,q,rs):=r;$$$$$$e;$(τ (τ {vs,s _ _ q,by rw[B1 (bO.length rs)]}))
 |exc C=>$(nO e)
 |ins C fs=>$(nO e)
 |bQ ns=>$(nO e)
 |adr p=>$(nO e)
 |cN f=>$(nO e)
 |bh fz f=>$(nO e)
def n9(f:DF):BF:=λZ=>(f Z).bind λp=>(mU p.1).map λc=>(c,p.2)
def fT(f:EF):BF:=λZ=>(f Z).bind λp=>match p.1 with
 |.D (.bl b)=>al (b,p.2)
 |_=>am
def pV(f:BF):BF:=λZ=>(f Z).map λp=>(!p.1,p.2)
def oQ(f g:BF):BF:=λZ=>(f Z).bind λp=>if p.1=bi then g p.2 else al (false,p.2)
def qC(f g:BF):BF:=λZ=>(f Z).bind λp=>if p.1=bi then al (true,p.2)else g p.2
def Ad(f:DF):DF:=λZ=>(f Z).bind λp=>(mU p.1).map λc=>(.bl<|!c,p.2)
def uI(f g:DF):DF:=λZ=>(f Z).bind λp=>(mU p.1).bind λc=>if c=bi then g p.2 else al p
def qf(f g:DF):DF:=λZ=>(f Z).bind λp=>(mU p.1).bind λc=>if c=bi then al p else g p.2
def WO (h:DD X a f)(l:∀whole,aeE a X.env whole=(do let v <-whole;adX a.pos;aaB [v] (agq v))):DT X a (n9 f):=by let(t,p,q):=h;$({_,Lj p l,λH0 ps Z σ H Hi c Z' Q e S k=>?_});let(d,Z1,m,e):=oB e;let(c',n,e):=oM e;let(rfl,rfl):=sP e;$(q H0 ps Z σ H Hi d _ _ m S λv o g j s' r=>{_,xO j.sub r n,k o g j s'})
theorem oG{op:aeK}{r:R2}{d:Dat->Dat->Option Res}{f g:DF}(j:aZ X (nr op) r)(ho:fS X r d)(l:DD X a f)(m:DD X b g)(hm:xn op b=bn):DT X (.Compare a [op] [b] pos) (fT<|cI d f g):=by
 let(ta,n,o):=l;let(tb,q,t):=m;$({_,pf j n q hm,λH0 ps Z σ H Hi c Z' Q e S k=>?_});let(rs,Z1,u,e):=oB e;dsimp at e;$$$$$e
 .let(rfl,rfl):=sP e;$(B5 ho o t H0 ps Z σ H Hi _ _ _ u S λv x h y s' z=>{_,z,k x h y s'})
 $(nO e)
def Rp (h:DT X a f):DT X (.UnaryOp .Not a pos) (pV f):=by let(t,p,q):=h;$({_,(λe=>by$(λd s f H Q I h=>isTrue_not<|e d s f H (λc g=>Q (!c) g) I h)) p,λH0 ps Z σ H Hi c Z' Q e S k=>?_});let(d,Z1,j,e):=oN e;let(rfl,rfl):=sP e;$(q H0 ps Z σ H Hi d _ _ j S λl g m s'=>k l g m s')
def Wr (h:DT X a f):DW X (.BoolOp .And [a] pos) f:=let⟨t,p,q⟩:=h;{t,WC p,q}
def Lu (h:DT X a f):DW X (.BoolOp .Or [a] pos) f:=let⟨t,p,q⟩:=h;{t,VB p,q}
theorem OK (o:DT X a f)(q:DW X (.BoolOp .And (b::rest) pos) g):DW X (.BoolOp .And (a::b::rest) pos) (oQ f g):=by
 let(t1,r,t):=o;let(t2,u,v):=q;$({_,K8 r u,λH0 ps Z σ H Hi c j Q e S k=>?_});let(d,Z1,x,e):=oB e;$(t H0 ps Z σ H Hi d Z1 _ x S λl h m s'=>?_);cases d with
 |true=>$(v H0 ps Z1 σ l h c j Q e m λy n z A=>k y n z (s'.trans A))
 |false=>let(rfl,rfl):=sP e;$(k l h m s')
theorem K2 (o:DT X a f)(q:DW X (.BoolOp .Or (b::rest) pos) g):DW X (.BoolOp .Or (a::b::rest) pos) (qC f g):=by
 let(t1,r,t):=o;let(t2,u,v):=q;$({_,Uc r u,λH0 ps Z σ H Hi c j Q e S k=>?_});let(d,Z1,x,e):=oB e;$(t H0 ps Z σ H Hi d Z1 _ x S λl h m s'=>?_);cases d with
 |false=>$(v H0 ps Z1 σ l h c j Q e m λy n z A=>k y n z (s'.trans A))
 |true=>let(rfl,rfl):=sP e;$(k l h m s')
def Mo (h:DD X a f):DD X (.UnaryOp .Not a pos) (Ad f):=by let(t,p,q):=h;$({_,M0 p,λH0 ps Z σ H Hi c Z' Q e S k=>?_});unfold Ad at e;let(d,Z1,l,e):=oB e;let(c',m,e):=oM e;let(rfl,rfl):=sP e;$(q H0 ps Z σ H Hi d _ _ l S λv n g j s' r=>{_,xO j.sub r m,k _ n g j s' ρ})
def Qx{op}(h:DD X a f):DD X (.BoolOp op [a] pos) f:=let⟨t,p,q⟩:=h;{t,Eh p,q}
theorem Xp (o:DD X a f)(q:DD X (.BoolOp .And (b::rest) pos) g):DD X (.BoolOp .And (a::b::rest) pos) (uI f g):=by
 let(t1,t,u):=o;let(t2,x,y):=q;$({_,U1 t x,λH0 ps Z σ H Hi c l Q e S k=>?_});let(d,Z1,z,e):=oB e;let(c',A,e):=oA e;$(u H0 ps Z σ H Hi d Z1 _ z S λv m h j s' r=>{c',xO j.sub r A,?_});cases c' with
 |true=>$(y H0 ps Z1 σ m h c l Q e j λB C n D E F=>k B C n D (s'.trans E) F)
 |false=>let(rfl,rfl):=sP e;$(k v m h j s' r)
theorem L3 (o:DD X a f)(q:DD X (.BoolOp .Or (b::rest) pos) g):DD X (.BoolOp .Or (a::b::rest) pos) (qf f g):=by
 let(t1,t,u):=o;let(t2,x,y):=q;$({_,Yq t x,λH0 ps Z σ H Hi c l Q e S k=>?_});let(d,Z1,z,e):=oB e;let(c',A,e):=oA e;$(u H0 ps Z σ H Hi d Z1 _ z S λv m h j s' r=>{c',xO j.sub r A,?_});cases c' with
 |false=>$(y H0 ps Z1 σ m h c l Q e j λB C n D E F=>k B C n D (s'.trans E) F)
 |true=>let(rfl,rfl):=sP e;$(k v m h j s' r)
mutual
noncomputable def toPy:Dat->PyData
 |.aG=>.none
 |.bl b=>.bool b
 |.int i=>.int i
 |.str x=>.str x
 |.U xs=>.tuple (dG xs)
 |.L xs=>.list (dG xs)
 |.bK _=>.dict []
 |.exc _=>.none
 |.ins _ _=>.none
 |.bQ _=>.none
 |.adr _=>.none
 |.cN _=>.none
 |.bh _ _=>.none
noncomputable def dG:List Dat->List PyData
 |[]=>[]
 |d::r=>toPy d::dG r
end
mutual
/-- no dict within -/
noncomputable def jS:Dat->Bool
 |.U xs=>kC xs
 |.L xs=>kC xs
 |.bK _=>false
 |.exc _=>false
 |.ins _ _=>false
 |.bQ _=>false
 |.adr _=>false
 |.cN _=>false
 |.bh _ _=>false
 |_=>true
noncomputable def kC:List Dat->Bool
 |[]=>true
 |d::r=>jS d&&kC r
end
mutual
theorem j9(I:Inv X pins σ H s)(sm:aj Hi H):∀{d:Dat}{v:V}{u:cm},jS d=bi->Rep X.K Hi d v->RelV v u->∃as,Reads s.heap u (toPy d) as
 | .aG,_,_,_,r,q=>by
  cases r
  cases q
  exact{_,.none}
 | .bl b,_,_,_,r,q=>by
  cases r
  cases q
  exact{_,.bool b}
 | .int i,_,_,_,r,q=>by
  cases r
  let(t,rfl):=q
  exact{_,.int i t}
 | .str x,_,_,_,r,q=>by
  cases r
  let(t,rfl):=q
  exact{_,.str x t}
 | .U ds,_,_,p,r,q=>by
  let(a,vs,rfl,f,rs):=r
  cases q
  let(its,g,(o,e,j,n,k),_):=I.tuple<|bf.mono sm f
  let(as,h):=xl I sm (show kC ds=bi from p) rs g
  exact{_,.tuple e j k (by simpa using h)}
 | .L ds,_,_,p,r,q=>by
  let(a,vs,rfl,f,rs):=r
  cases q
  let(z,its,n,g,e):=(Rd.mono sm f).ok I.ao
  let(as,h):=xl I sm (show kC ds=bi from p) rs g
  exact{_,.list e rfl rfl (by simpa using h)}
 |.bK _,_,_,p,_,_=>by cases p
 |.exc _,_,_,p,_,_=>by cases p
 |.ins _ _,_,_,p,_,_=>by cases p
 |.bQ _,_,_,p,_,_=>by cases p
 |.adr _,_,_,p,_,_=>by cases p
 |.cN _,_,_,p,_,_=>by cases p
 |.bh _ _,_,_,p,_,_=>by cases p
theorem xl(I:Inv X pins σ H s)(sm:aj Hi H):∀{ds:List Dat}{vs:List V}{us:List cm},kC ds=bi->aB X.K Hi ds vs->aO vs us->∃as,ReadsAll s.heap us (dG ds) as
 | [],_,_,_,r,q=>by
  cases(show _=[]from r)
  cases q
  exact{_,.nil}
 | d::ds,_,_,p,r,q=>by
  let(v,vr,rfl,l,m):=r
  cases q with
  |cons y A =>
   have p:=l5.1 (show(jS d&&kC ds)=bi from p)
   let(as,e):=j9 I sm p.1 l y
   let(bs,j):=xl I sm p.2 m A
   exact{_,.cons e j}
end
def bU(d:Dat):Bool:=jS d&&aey (toPy d)
def dm(d e:Dat):Bool:=aai (toPy d)<|toPy e
def Ht(neg:Bool):Dat->Dat->Option Res
 |.L (_::_),.L []=>al (.D<|.bl neg)
 |_,_=>am
def dN(neg:Bool):Dat->Dat->Option Res:=λd e=>if bU d&&bU e then al (.D<|.bl (if neg then !dm d e else dm d e))else Ht neg d e
def As(K:f')(neg:Bool):R2:=λx y H Q=>∃Hi d e,aj Hi H/\Rep K Hi d x/\Rep K Hi e y/\bU d=bi/\bU e=bi/\Q (.bl (if neg then !dm d e else dm d e)) H
def yO(neg:Bool):R2:=λx y H Q=>∃l b z zs,x=.ref l/\y=.ref b/\Rd H l (.L (z::zs))/\Rd H b (.L [])/\Q (.bl neg) H
def yj(K:f')(neg:Bool):R2:=λx y H Q=>As K neg x y H Q\/yO neg x y H Q
theorem Jo(j:X.A.units+64<u2):aZ X (nr .NotEq) (As X.K true):=by ext pins s σ H x y v u Q I k l h;let(Hi,d,e,sm,m,n,f,g,q):=h;let f:=l5.1 f;let g:=l5.1 g;let(as,o):=j9 I sm f.1 m k;let(bs,r):=j9 I sm g.1 n l;$(ne_dataH o r f.2 g.2 j {.bl<|!dm d e,H,I,ρ,q})
def JN{pins:List (dn×zI)}{σ:St}{H:Hp}{s:cA}(I:Inv X pins σ H s){l b:dn}{z:V}{zs:List V}(h:Rd H l (.L (z::zs)))(j:Rd H b (.L [])):∃f g:Array cm,s.heap.IsList l f/\s.heap.IsList b g/\(f.size != g.size)=bi:=by let(z1,its,n,r,e):=h.ok I.ao;let(z2,d,k,m,o):=j.ok I.ao;let t:=m.length;$({its.toArray,d.toArray,{_,e,ρ,n,ρ},{_,o,ρ,k,ρ},?_});simp?[gs,<-r.length,<-t];rfl
def Dt(d:X.A.units+64<u2):aZ X (nr .Eq) (yj X.K false):=aZ.or ((λj=>by ext pins s σ H x y v u Q I k l h;let(Hi,d,e,sm,m,n,f,g,q):=h;let f:=l5.1 f;let g:=l5.1 g;let(as,o):=j9 I sm f.1 m k;let(bs,r):=j9 I sm g.1 n l;$(eq_dataH o r f.2 g.2 j {.bl<|dm d e,H,I,ρ,q})) d)<|(λhu=>by ext pins s σ H x y v u Q I d e h;let(l,b,z,zs,rfl,rfl,f,g,q):=h;$$d;$$e;let(i1,i2,a,c,j):=JN I f g;$(aie a c j (by lia) _ _ _ _ ⟨.bl false,H,I,ρ,q⟩)) d
def FU(d:X.A.units+64<u2):aZ X (nr .NotEq) (yj X.K true):=aZ.or (Jo d)<|(λhu=>by ext pins s σ H x y v u Q I d e h;let(l,b,z,zs,rfl,rfl,f,g,q):=h;$$d;$$e;let(i1,i2,a,c,j):=JN I f g;$(ahu a c j (by lia) _ _ _ _ ⟨.bl true,H,I,ρ,q⟩)) d
def xu:fS X (yj X.K neg) (dN neg):=by
 ext H0 ps Z σ H Hi x y d d' o Q e S g h k;delta dN at e;$$$$$e
 .ext1 f;let f:=l5.1 f;$$$$$$e;$(ι {Hi,d,d',S.sub,g,h,f.1,f.2,k _ H Hi S (aj.refl _) ρ})
 delta Ht at e;$$$$$e
 .$$$$$$e;let(p,vs,rfl,j,l):=g;let(m,n,rfl,q,r):=h;let(z,zs,rfl,_,_):=l;cases(r);$(τ {p,m,z,zs,ρ,ρ,Rd.mono S.sub j,Rd.mono S.sub q,k _ H Hi S (aj.refl _) ρ})
 $(nO e)
def inD(d:Dat)(ds:List Dat):Bool:=(dG ds).any λy=>aai y<|toPy d
def yY(neg:Bool):Dat->Dat->Option Res
 |d,.L ds=>if bU d&&bU (.L ds)then al (.D<|.bl (if neg then !inD d ds else inD d ds))else am
 |d,.U ds=>if bU d&&bU (.U ds)then al (.D<|.bl (if neg then !inD d ds else inD d ds))else am
 |.str x,.str y=>al (.D<|.bl (if neg then !(!(z9 y x 0 y.length 1).isEmpty)else !(z9 y x 0 y.length 1).isEmpty))
 |_,_=>am
def Bm(K:f')(neg:Bool):R2:=λx y H Q=>∃Hi d ds c,(c=.L ds\/c=.U ds)/\aj Hi H/\Rep K Hi d x/\Rep K Hi c y/\bU d=bi/\bU c=bi/\Q (.bl (if neg then !inD d ds else inD d ds)) H
def qj(K:f')(neg:Bool):R2:=λx y H Q=>Bm K neg x y H Q\/(λx y H Q=>∃i j,x=.str i/\y=.str j/\Q (.bl (if neg then !(!(z9 j i 0 j.length 1).isEmpty)else !(z9 j i 0 j.length 1).isEmpty)) H) x y H Q
def UN(d:X.A.units+65<u2):aZ X (nr .In) (qj X.K false):=aZ.or ((λg=>by
  ext pins s σ H x y v u Q I l m h;let(Hi,d,ds,c,n,sm,o,r,e,f,q):=h;let e:=l5.1 e;let f:=l5.1 f;let(as,j):=j9 I sm e.1 o l;let(bs,k):=j9 I sm f.1 r m;let rfl||rfl:=n
  .$(SeqAt.in_list_reads k j (qt f.2) (qt e.2) (acq e.2 g) {.bl<|inD d ds,H,I,ρ,q})
  $(SeqAt.in_tuple_reads k j (qt f.2) (qt e.2) (acq e.2 g) {.bl<|inD d ds,H,I,ρ,q})) d) R8
theorem LV(d:X.A.units+65<u2):aZ X (nr .NotIn) (qj X.K true):=aZ.or ((λg=>by
  ext pins s σ H x y v u Q I l m h;let(Hi,d,ds,c,n,sm,o,r,e,f,q):=h;let e:=l5.1 e;let f:=l5.1 f;let(as,j):=j9 I sm e.1 o l;let(bs,k):=j9 I sm f.1 r m;let rfl||rfl:=n
  .$(SeqAt.notIn_list_reads k j (qt f.2) (qt e.2) (acq e.2 g) {.bl<|!inD d ds,H,I,ρ,q})
  $(SeqAt.notIn_tuple_reads k j (qt f.2) (qt e.2) (acq e.2 g) {.bl<|!inD d ds,H,I,ρ,q})) d) Oc
def SG:fS X (qj X.K neg) (yY neg):=by
 ext H0 ps Z σ H Hi x y d d' o Q e S g h k;delta yY at e;$$$$$e
 .$$$$$e
  .ext1 f;let f:=l5.1 f;$$$e;$(ι {Hi,d,_,_,ι ρ,S.sub,g,h,f.1,f.2,k _ H Hi S (aj.refl _) ρ})
  $(nO e)
 .$$$$$e
  .ext1 f;let f:=l5.1 f;$$$e;$(ι {Hi,d,_,_,τ ρ,S.sub,g,h,f.1,f.2,k _ H Hi S (aj.refl _) ρ})
  $(nO e)
 .$$$$$$e;$$g;$$h;$(τ {_,_,ρ,ρ,k _ H Hi S (aj.refl _) ρ})
 $(nO e)
def kindAt(io:Bool)(c:Dat):Slot:=if io then .io c else .O c
def ownOf:Slot->Option (Bool×Dat)
 |.O c=>al (false,c)
 |.io c=>al (true,c)
 |_=>am
def vp{s:Slot}{b:Bool}{c:Dat}(h:ownOf s=al (b,c)):s=kindAt b c:=by
 $$$s<;>$$$h<;>rfl
theorem SR.at(S:SR K H0 ps Z σ H Hi)(e:Z[i]?=al (kindAt io c)):∃p,σ[i]?=al (al<|.ref p)/\cW K H Hi p c:=by
 cases io with
 |false=>let(p,a,b,_):=S.O i c e;$(⟨p,a,b⟩)
 |true=>let(p,a,b,_):=S.io i c e;$(⟨p,a,b⟩)
theorem SR.write (S:SR K H0 ps Z σ H Hi)(e:Z[i]?=al (kindAt io c))(ep:σ[i]?=al (al<|.ref p))(ho:cW K (upd H p o) Hi p c'):SR K H0 ps (Z.set i<|kindAt io c') σ (upd H p o) Hi:=by
 let v:=(cn.1 e).1;let x:Z[i]?=al (.O c)\/Z[i]?=al (.io c):=by
  cases io with
  |false=>$(ι e)
  |true=>$(τ e)
 let y:¬iH ps p->H0.1 p=am:=λnl=>by
  cases io with
  |false=>let(q,a,b,g,r):=S.O i c e;rw[ep]at a;$$$a;$r
  |true=>let(q,a,b,g):=S.io i c e;rw[ep]at a;$$$a;$(absurd ⟨i,g⟩ nl)
 let other:∀{j:Nat}{s:Slot},j≠i->(Z.set i<|kindAt io c')[j]?=al s->Z[j]?=al s:=λ{j s} f h=>by rw[mu (Ne.symm f)]at h;$h
 let ad3:∀{s:Slot},(Z.set i<|kindAt io c')[i]?=al s->s=kindAt io c':=λ{s} h=>by rw[qz v]at h;$((Option.some.inj h).symm)
 let ne:∀{j:Nat}{d:Dat}{q:dn},j≠i->(Z[j]?=al (.O d)\/Z[j]?=al (.io d))->σ[j]?=al (al<|.ref q)->q≠p:=λ{j d q} f h a z=>by$$z;$(f<|S.ne j i d c q h x a ep)
 $({xG S.sub ho.some.2,λb u t n=>?_,λq l=>?_,λj d h=>?_,λj d h=>?_,λj d h=>?_,λj k d d' q A B C D=>?_,by rw[LK];$S.len,S.nw})
 .let E:b≠p:=λz=>by$$z;rw[y n]at t;$(nO t)
  rw[aA E];$(S.keep b u t n)
 .ext(m:q=p)
  .$$m;rw[a9];simp
  rw[aA m];$(S.gq q l)
 .let f:j≠i:=λz=>by$$z;let:=ad3 h;$$$io<;>lk
  $(S.D j d<|other f h)
 .ext(f:j=i)
  .$$f;let:=ad3 h;cases io with
   |false =>
    $$$this;let(q,a,b,g,r):=S.O j c e;rw[ep]at a;$$$a;$(⟨p,ep,ho,g,r⟩)
   |true=>$$$this
  let(q,a,b,g,r):=S.O j d<|other f h;let m:=ne f (ι<|other f h) a;$({q,a,b.keeps (aA m) (aj.refl _) b.some.2,g,r})
 .ext(f:j=i)
  .$$f;let:=ad3 h;cases io with
   |true =>
    $$$this;let(q,a,b,g):=S.io j c e;rw[ep]at a;$$$a;$(⟨p,ep,ho,g⟩)
   |false=>lk
  let(q,a,b,g):=S.io j d<|other f h;let m:=ne f (τ<|other f h) a;$({q,a,b.keeps (aA m) (aj.refl _) b.some.2,g})
 let back:∀{j:Nat}{d:Dat},((Z.set i<|kindAt io c')[j]?=al (.O d)\/(Z.set i<|kindAt io c')[j]?=al (.io d))->∃d',Z[j]?=al (.O d')\/Z[j]?=al (.io d'):=λ{j d} h=>by
  ext(f:j=i)
  .$$f;$(⟨c,x⟩)
  $({d,h.imp (other f)<|other f})
 let(F,G):=back A;let(I,J):=back B;$(S.ne j k F I q G J C D)
def MD(K:f')(T:String)(r:V->List V->Hp->VK->Prop)(e:Dat->List Dat->Option (Dat×Dat)):Prop:=∀(H Hi:Hp) (p:dn) (c:Dat) (ds:List Dat) (vs:List V) (d c':Dat) (Q:VK),e c ds=al (d,c')->aj Hi H->cW K H Hi p c->aB K Hi ds vs ->
 (∀v o,cW K (upd H p o) Hi p c'->Rep K Hi d v->Q v (upd H p o))->r (.ref p) vs H Q
def Ke:Dat->Bool
 |.L _=>true
 |_=>false
def kR(i:Nat)(d:Dat->List Dat->Option (Dat×Dat))(fa:AF):DF:=λZ=>((Z[i]?).bind ownOf).bind λs=>if Ke s.2=bi then(fa Z).bind λp=>((p.2[i]?).bind ownOf).bind λt=>(d t.2 p.1).map λq=>(q.1,p.2.set i<|kindAt t.1 q.2)else am
theorem QN (h:kR i j fa Z=al (d,k)) :
  ∃io c ds Z1 e f c',Z[i]?=al (kindAt io<|.L c)/\fa Z=al (ds,Z1)/\Z1[i]?=al (kindAt e f)/\j f ds=al (d,c')/\k=Z1.set i (kindAt e c'):=by
 delta kR at h;cases l:Z[i]? with
 |none=>rw[l]at h;$(nO h)
 |some s =>
  rw[l]at h;let(io,c,n,h):=oB h;dsimp at h;$$$$$h
  .cases m:fa Z with
   |none=>rw[m]at h;$(nO h)
   |some p =>
    let(ds,Z1):=p;rw[m]at h;simp at h;cases g:Z1[i]? with
    |none=>rw[g]at h;$(nO h)
    |some s1 =>
     rw[g]at h;let(e,f,o,h):=oB h;let(d',c',q,h):=oN h;dsimp at h;let(rfl,rfl):=sP h;cases c with
     |L c=>$({io,c,ds,Z1,e,f,c',by rw[vp n],rfl,by rw[g,vp o],q,rfl})
     |_=>lk
  $(nO h)
def En (i:Nat)(hN:X.N[i]?=al x)(hv:bV X.env.scope x)(A:∀{t:TA},PA X (e::f) t->PE X (.Call (.Attribute (.Name x l) m apos) (e::f) [] pos) (vJ X.K "list" r (uh i) t))(hm:MD X.K "list" r n)(B:DA X (e::f) fa):DD X (.Call (.Attribute (.Name x l) m apos) (e::f) [] pos) (kR i n fa):=by let(t,p,q):=B;$({_,A p,λH0 ps Z σ H Hi d Z' Q C S k=>?_});let(io,c,ds,Z1,io',D,c',E,F,u,G,rfl):=QN C;let(a,h,I):=S.at E;let(y,h0,_,_):=I;$({.ref a,h,ι {ρ,y,cC.of h0},?_});$(q H0 ps Z σ H Hi ds Z1 _ F S λvs J g j L M=>?_);let(b,z,ob):=j.at u;rw[h]at z;$$$z;$(hm J g a D ds vs d c' Q G j.sub ob M λv o o1 O=>k v _ g (j.write u h o1) L O)
def uf:Dat->List Dat->Option (Dat×Dat)
 |.L xs,[d]=>if xs.length<c6 then al (.aG,.L<|xs++[d])else am
 |_,_=>am
def Wl (i:Nat)(k:X.N[i]?=al x)(l:bV X.env.scope x)(n:DA X [e] fa)(hd:bz x:=by decide)(m:cB x:=by decide)(f:aae (.Name x d) "append" X.env (eval (.Name x d) X.env)=eval (.Name x d) X.env:=by rfl)(j:qF X pos e:=by rfl)(g:(apos.endLine==pos.line)=bi:=by rfl)(hs:bD X e []:=by rfl):DD X (.Call (.Attribute (.Name x d) "append" apos) [e] [] pos) (kR i uf fa) :=
 En i k l (λh=>sN aa4 aeJ PySem.F.type_list_append CU (dU k l hd m) h f j g hs ρ) (by
   ext H Hi p c ds vs d c' Q e sm ho r k;delta uf at e;$$$$$e
   .$$$$$e
    .ext1 hz;let(rfl,rfl):=sP e;let(g,h,f,j):=ho;let(v,vr,rfl,l,m):=r;$$m;$({p,g,v,ρ,ρ,h,by rw[f.length];$hz,k .aG _ {_,a9,aB.append f {v,[],ρ,l,ρ},j} ρ})
    $(nO e)
   $(nO e)) n
end
def CD(X:Cx)(r:List V->Hp->VK->Prop)(g:List Dat->Option Res):Prop:=∀(b:Hp×Hp) (c:Nat->Option dn) (Z:DS) (d:St) (H e:Hp) (vs:List V) (ds:List Dat) (o:Res) (Q:VK),g ds=al o->SR X.K b c Z d H e->aB X.K e ds vs ->
 (∀v f a,SR X.K b c Z d f a->aj e a->RR X.K b c Z d f a v o->Q v f)->r vs H Q
section
variable{X:Cx}{pos p:u1}{x:eS}{id T:String}{r:List V->Hp->VK->Prop}{fo:List Dat->Option Res}{e:hF}{es:List hF}{fa:AF}{K:f'}{H0:Hp×Hp}{ps:Nat->Option dn}{Z:DS}{σ:St}{H Hi:Hp}{i:Nat}{d:Dat}{v:V}{a b:hF}{P:hZ}{w:nL}{mg:eS->Option cm}{base:nk}{f g:DF}{p2:u1}
def HS (s:CD X r fo)(q:∀(H0:Hp×Hp) (ps:Nat->Option dn) (Z:DS) (σ:St) (H Hi:Hp) (ds:List Dat) (h:DS) (Q:List V->Hp->Prop),fa Z=al (ds,h)->SR X.K H0 ps Z σ H Hi->(∀vs j c,SR X.K H0 ps h σ j c->aj Hi c->aB X.K c ds vs->Q vs j)->t σ H Q)(H0:Hp×Hp)(ps:Nat->Option dn)(Z:DS)(σ:St)(H Hi:Hp)(o:Res)(h:DS)(Q:VK)(l:bT fo fa Z=al (o,h))(S:SR X.K H0 ps Z σ H Hi)(k:∀v j c,SR X.K H0 ps h σ j c->aj Hi c->RR X.K H0 ps h σ j c v o->Q v j):Cy r t σ H Q:=by let(ds,Z1,u,l):=oB l;let(r2,y,l):=oM l;let(rfl,rfl):=sP l;$(q H0 ps Z σ H Hi ds _ _ u S λvs z m A B C=>?_);$(s H0 ps _ σ z m vs ds _ Q y A C λv D n E F G=>k v D n E (B.trans F) G)
def iu(j:bN X (.builtin id) r)(k:CD X r fo)(l:Gl X x)(hm:X.mg x=am)(m:ZH x=al (.builtin id))(n:DA X (e::es) fa)(o:x≠"__name__":=by decide)(c:bz x:=by decide)
 (s:bD X e es:=by rfl)(h:(T' pos<|km es X.env).any (·.1)=bn:=by rfl):DE X (.Call (.Name x p) (e::es) [] pos) (bT fo fa):=by
 let(t,u,q):=n;$({_,kD j l hm m u o c s h,HS k q})
def xq(j:bN X (.type T) r)(k:CD X r fo)(l:Gl X x)(hm:X.mg x=am)(m:ZH x=al (.type T))(n:DA X (e::es) fa)(o:x≠"__name__":=by decide)(c:bz x:=by decide)
 (s:bD X e es:=by rfl)(h:(T' pos<|km es X.env).any (·.1)=bn:=by rfl):DE X (.Call (.Name x p) (e::es) [] pos) (bT fo fa):=by
 let(t,u,q):=n;$({_,wH j l hm m u o c s h,HS k q})
def vM:List Dat->Option Res
 |[.int i]=>al (.D<|.int (if i<0 then -i else i))
 |_=>am
def Rk:CD X (λxs H Q=>∃i,xs=[.int i]/\Q (.int (if i<0 then -i else i)) H) vM:=by
 ext H0 ps Z σ H Hi vs ds o Q e S r k;delta vM at e;$$$$$e
 .$$$$$$e;let(v,vr,rfl,c,h):=r;$$c;$$h;$({_,ρ,k _ H Hi S (aj.refl _) ρ})
 $(nO e)
def pR:List Dat->Option Res
 |[.int i]=>al (.D<|.int i)
 |[.bl b]=>al (.D<|.int (if b then 1 else 0))
 |_=>am
def Ly:CD X (λxs H Q=>(∃i,xs=[.int i]/\Q (.int i) H)\/∃k,xs=[.bl k]/\Q (.int (if k then 1 else 0)) H) pR:=by
 ext H0 ps Z σ H Hi vs ds o Q e S r k;delta pR at e;$$$$$e
 .$$$e;let(v,j,rfl,c,h):=r;$$$c;$$h;$(ι {_,ρ,k _ H Hi S (aj.refl _) ρ})
 .$$$e;let(v,j,rfl,c,h):=r;$$c;$$h;$(τ {_,ρ,k _ H Hi S (aj.refl _) ρ})
 $(nO e)
def AW:List Dat->Option Res
 |[.int i,.int j]=>al (.D<|.int (if j<i then j else i))
 |_=>am
def zZ:List Dat->Option Res
 |[.int i,.int j]=>al (.D<|.int (if j>i then j else i))
 |_=>am
def LL:CD X (λxs H Q=>∃i j,xs=[.int i,.int j]/\Q (.int (if j<i then j else i)) H) AW:=by
 ext H0 ps Z σ H Hi vs ds o Q e S r k;delta AW at e;$$$$$e
 .$$$$$$e;let(v,vr,rfl,h,w,wr,rfl,c,l):=r;$$h;$$c;$$l;$({_,_,ρ,k _ H Hi S (aj.refl _) ρ})
 $(nO e)
def Xl:CD X (λxs H Q=>∃i j,xs=[.int i,.int j]/\Q (.int (if j>i then j else i)) H) zZ:=by
 ext H0 ps Z σ H Hi vs ds o Q e S r k;delta zZ at e;$$$$$e
 .$$$$$$e;let(v,vr,rfl,h,w,wr,rfl,c,l):=r;$$h;$$c;$$l;$({_,_,ρ,k _ H Hi S (aj.refl _) ρ})
 $(nO e)
def eQ:Dat->Option Nat
 |.L ds=>al ds.length
 |.U ds=>al ds.length
 |.bK c=>al c.length
 |.cN c=>al c.length
 |.str x=>if x.length<=c6 then al x.length else am
 |_=>am
def zp:List Dat->Option Res
 |[d]=>(eQ d).map λn:Nat=>.D (.int (n:Int))
 |_=>am
def AG(K:f'):List V->Hp->VK->Prop:=λxs H Q=>(∃p ys,xs=[.ref p]/\(cC K H p ys\/bf K H p ys)/\Q (.int ys.length) H)\/(λxs H Q=>(λxs H Q=>(∃z,xs=[.str z]/\z.length<=c6/\Q (.int z.length) H)) xs H Q\/(λxs H Q=>∃a kvs,xs=[.ref a]/\Rd H a (.dK kvs)/\Q (.int kvs.length) H) xs H Q) xs H Q
def Ff:bN X (.builtin "len") (AG X.K):=bN.or TR<|bN.or QI (by ext pins s σ H xs us Q I r h;let(a,kvs,rfl,c,q):=h;let(u,rfl,j):=vals1 r;$$j;$(UD I c λt s' k=>⟨.int kvs.length,H,k,⟨t,ρ⟩,q⟩))
theorem UZ:CD X (AG X.K) zp:=by
 ext H0 ps Z σ H Hi vs ds o Q e S r k;delta zp at e;$$$$$e
 .ext1 d;let(v,vr,rfl,h,j):=r;$$j;cases d with
  |L ds =>
   $$$e;let(p,c,rfl,q,rs):=h;$(ι {p,c,ρ,ι<|ι<|Rd.mono S.sub q,k _ H Hi S (aj.refl _) ?_});show V.int _=V.int _;rw[rs.length]
  |U ds =>
   $$$e;let(p,c,rfl,q,rs):=h;$(ι {p,c,ρ,τ<|bf.mono S.sub q,k _ H Hi S (aj.refl _) ?_});show V.int _=V.int _;rw[rs.length]
  |str x =>
   $$h;let e:(if x.length<=c6 then al x.length else am).map (λn:Nat=>Res.D<|.int n)=al o:=e;$$$$$e
   .ext1 hz;$$$$$$e;$(τ<|ι ⟨x,ρ,hz,k _ H Hi S (aj.refl _) ρ⟩)
   $(nO e)
  |bK l =>
   $$$e;let(p,c,rfl,q,rs):=h;$(τ<|τ ⟨p,c,ρ,Rd.of<|S.sub _ _ q,k _ H Hi S (aj.refl _) ?_⟩);show V.int _=V.int _;rw[bO.length rs]
  |cN l =>
   $$$e;let(p,ob,c,rfl,q,rs):=h;$(τ<|τ ⟨p,c,ρ,τ ⟨ob,S.sub _ _ q⟩,k _ H Hi S (aj.refl _) ?_⟩);show V.int _=V.int _;rw[bO.length rs]
  |_=>$(nO e)
 $(nO e)
def sY:Dat->Dat->Option Dat
 |.L ds,.int i=>gb ds i
 |.U ds,.int i=>gb ds i
 |.str x,.int i=>if x.length<=c6 then(gb x.cps.toList i).map λc=>.str ⟨#[c]⟩else am
 |_,_=>am
def iE:Slot->Option Dat
 |.D d=>al d
 |.O d=>al d
 |.io d=>al d
 |.no=>am
def Top(K:f')(H Hi:Hp)(v:V):Dat->Prop
 |.L ds=>∃p vs,v=.ref p/\Rd H p (.L vs)/\aB K Hi ds vs
 |.U ds=>∃p vs,v=.ref p/\bf K H p vs/\aB K Hi ds vs
 |.bK c=>∃p kvs,v=.ref p/\H p=al (.dK kvs)/\bO K Hi c kvs
 |.bh h c=>∃p o kvs,v=.ref p/\H p=al (if h then .bA o (.dT kvs)else .dT kvs)/\cc K Hi c kvs
 |d=>Rep K Hi d v
theorem Rep.top(r:Rep K Hi d v)(s:aj Hi H):Top K H Hi v d:=by
 cases d with
 |L ds=>let(p,vs,a,b,c):=r;$({p,vs,a,Rd.mono s b,c})
 |U ds=>let(p,vs,a,b,c):=r;$({p,vs,a,bf.mono s b,c})
 |bK ds=>let(p,vs,a,b,c):=r;$({p,vs,a,s _ _ b,c})
 |bh fz ds=>let(p,o,vs,a,b,c):=r;$({p,o,vs,a,s _ _ b,c})
 |_=>$r
theorem cW.top{p:dn}(h:cW K H Hi p d):Top K H Hi (.ref p) d:=by
 cases d with
 |L ds=>let(vs,a,b,_):=h;$({p,vs,ρ,Rd.of a,b})
 |bK c=>let(vs,a,b,_):=h;$(⟨p,vs,ρ,a,b⟩)
 |bh fz c=>let(rfl,vs,a,b,_):=h;$({p,{cls:=.none,data:=.fields #[]},vs,ρ,a,b})
 |_=>$h.elim
theorem SR.peek(S:SR K H0 ps Z σ H Hi)(e:(Z[i]?).bind iE=al d):∃v,σ[i]?=al (al v)/\Top K H Hi v d:=by
 let(s,c,e):=oA e;cases s with
 |no=>$(nO e)
 |D d'=>$$$e;let(v,a,b):=S.D i d c;$({v,a,b.top S.sub})
 |O d'=>$$$e;let(p,a,b,_):=S.O i d c;$({_,a,b.top})
 |io d'=>$$$e;let(p,a,b,_):=S.io i d c;$({_,a,b.top})
theorem JM (r:aB K Hi ds vs)(e:gb ds k=al d):∃v,gb vs k=al v/\Rep K Hi d v:=by
 delta gb at e ⊢;rw[r.length];cases q:iC ds.length k with
 |none=>rw[q]at e;$(nO e)
 |some j=>rw[q]at e;$(r.get e)
def FJ{x y:V}{a b:Dat}{Q:VK}(t:Top K H Hi x a)(j:Rep K Hi b y)(e:sY a b=al d)(k:∀v,Rep K Hi d v->Q v H):HB K x y H Q:=by
 delta sY at e;$$$$$e
 .let(p,vs,rfl,l,rs):=t;$$$j;let(v,h,m):=JM rs e;$(ι {p,vs,_,v,ρ,ρ,ι l,h,k v m})
 .let(p,vs,rfl,l,rs):=t;$$$j;let(v,h,m):=JM rs e;$(τ<|ι ⟨p,vs,_,v,ρ,ρ,l,h,k v m⟩)
 .$$$$$e
  .ext1 hz;$$t;$$j;let(c,h,e):=oM e;$$$$$$e;$(τ<|τ ⟨_,_,c,ρ,ρ,hz,h,k _ ρ⟩)
  $(nO e)
 $(nO e)
def rJ(i:Nat):DF:=λZ=>((Z[i]?).bind iE).bind λc=>(eQ c).map λn:Nat=>(.int (n:Int),Z)
theorem XY (i:Nat)(u:X.N[i]?=al x)(y:bV X.env.scope x)(A:Gl X "len")(hm:X.mg "len"=am)(hd:bz x:=by decide)(o:cB x:=by decide) :
  DD X (.Call (.Name "len" s) [.Name x q] [] pos) (rJ i):=by
 $({_,kD Ff A hm ad1<|bW (dU u y hd o) fF ρ,λH0 ps Z σ H Hi d Z' Q e S k=>?_});let(c,B,e):=oA e;cases h:eQ c with
 |none=>rw[h]at e;$(nO e)
 |some n =>
  rw[h]at e;let(rfl,rfl):=sP e;let(v,a,t):=S.peek B;$({v,a,?_});let j:∀m:Nat,m=n->Q (.int (m:Int)) H:=λm em=>k _ H Hi S (aj.refl _) (by rw[em];rfl);cases c with
  |L ds=>let(p,vs,rfl,l,rs):=t;$$$h;$(ι {p,vs,ρ,ι<|ι l,j _ rs.length})
  |U ds=>let(p,vs,rfl,l,rs):=t;$$$h;$(ι {p,vs,ρ,τ l,j _ rs.length})
  |bK C=>let(p,vs,rfl,l,rs):=t;$$$h;$(τ (τ {p,vs,ρ,Rd.of l,j _<|bO.length rs}))
  |cN C=>let(p,ob,vs,rfl,l,rs):=t;$$$$$$h;$(τ (τ {p,vs,ρ,τ {ob,S.sub _ _ l},j _<|bO.length rs}))
  |str z =>
   $$t;let h:(if z.length<=c6 then al z.length else am)=al n:=h;$$$$$h
   .ext1 hz;$$$$$$h;$(τ<|ι ⟨z,ρ,hz,j _ ρ⟩)
   $(nO h)
  |_=>$(nO h)
def nJ(i:Nat)(c f:DF):SF:=λZ=>(f Z).bind λp=>((p.2[i]?).bind ownOf).bind λ_=>(c p.2).bind λq=>match q.1 with
 | .int k=>((q.2[i]?).bind ownOf).bind λs=>(match s.2 with
  |.L xs=>(iC xs.length k).map λj=>.next (q.2.set i<|kindAt s.1<|.L<|xs.set j p.1)
  |_=>am)
 |_=>am
theorem SD (i:Nat)(V:X.N[i]?=al x)(W:bV X.env.scope x)(h:DD X e f)(Y:DD X l F)(hd:bz x:=by decide)(G:cB x:=by decide)(ha:∀v,abL (.Subscript (.Name x m) l pt) X.env v=(do
   let u <-aaB [v] (eval (.Name x m) X.env);let B <-aaB [v,u] (eval l X.env)
   adX pt
   aaB [v,u,B] (afq u B v)
   release [v,u,B] []):=by ext _;rfl)(hs:ae4 [.Subscript (.Name x m) l pt] e pos.line X.env=pure false:=by rfl)(hw:ae5 [.Subscript (.Name x m) l pt] e X.env=pure am:=by rfl)(C:(u3 [.Subscript (.Name x m) l pt] X.env).map (·.2)=[abL (.Subscript (.Name x m) l pt) X.env]:=by rfl):cw X (.Assign [.Subscript (.Name x m) l pt] e pos) (nJ i F f):=by
 let(t,p,q):=h;let(tk,pk,qk):=Y;$({_,Wx p (Ol (dU V W hd G) pk set_list ha) hs hw C,λH0 ps Z σ H Hi o D e S k=>?_});let(d,Z1,e1,e):=oB e;let(s0,e2,e):=oA e;let(n,Z2,e3,e):=oB e;dsimp at e;$$$$$e
 .ext1 kk;let(io,c,I,e):=oB e;dsimp at e;cases c with
  |L xs =>
   let(j,e5,e):=oM e;$$$$$$e;let sl:∀{A:DS}{b:Bool}{c:Dat},(A[i]?).bind ownOf=al (b,c)->A[i]?=al (kindAt b c):=λ{A b c} h=>by
    cases z:A[i]? with
    |none=>rw[z]at h;$(nO h)
    |some s=>rw[z]at h;rw[vp h]
   $(q H0 ps Z σ H Hi d Z1 _ e1 S λv H1 J L s1 r1=>?_);let(a,E,_):=L.at<|sl e2;$({.ref a,E,qk H0 ps Z1 σ H1 J _ Z2 _ e3 L λy H2 M O Q r2=>?_});$$r2;let(b,R,ob):=O.at<|sl I;rw[E]at R;$$$R;let(vs,C,U,h3):=ob;$({a,vs,kk,j,ρ,ρ,C,by rw[U.length];$e5,?_});$(k σ _ M (O.write (sl I) E {_,a9,aB.set j U<|Rep.mono Q r1,h3}) (s1.trans Q))
  |_=>$(nO e)
 $(nO e)
def Rc(X:Cx)(j:Nat)(i:Nat)(f:AF)(t:TA):Prop:=∀(H0:Hp×Hp) (ps:Nat->Option dn) (Z:DS) (σ:St) (H Hi:Hp) (ds:List Dat) (h:DS) (w:V) (Q:List V->Hp->Prop),f Z=al (ds,h)->SR X.K H0 ps Z σ H Hi->σ[i]?=al (al w) ->
 (∀vs k c,SR X.K H0 ps h σ k c->aj Hi c->vs[j]?=al w->aB X.K c ds (vs.eraseIdx j)->Q vs k)->t σ H Q
inductive xF (X:Cx) (es:List hF) (j i:Nat) (f:AF):Prop
 |mk (t:TA) (p:PA X es t) (q:Rc X j i f t)
def Oh{x:eS}{c:u1}{es:List hF}{g:AF}(i:Nat)(m:X.N[i]?=al x)(n:bV X.env.scope x)(h:DA X es g)(hs:km (.Name x c::es) X.env=(false,eval (.Name x c) X.env)::km es X.env:=by rfl)
 (hd:bz x:=by decide)(j:cB x:=by decide):xF X (.Name x c::es) 0 i g:=by
 let(t,p,q):=h;$({_,bW (dU m n hd j) p hs,λH0 ps Z σ H Hi ds o w Q e S s k=>{w,s,?_}});$(q H0 ps Z σ H Hi ds o _ e S λvs u l y s' r=>k (w::vs) u l y s' ρ r)
theorem SR.ET{K:f'}{H0:Hp×Hp}{ps:Nat->Option dn}{Z:DS}{σ:St}{H Hi l k:Hp}{v:V}{r:Res}{i:Nat}{io:Bool}{c n:Dat}{p:dn}(S:SR K H0 ps Z σ H Hi)(e:Z[i]?=al (kindAt io c))(ep:σ[i]?=al (al<|.ref p))
 (s:∀b o,H b=al o->b≠p->l b=al o)(Q:aj Hi k)(R:aj k l)(nw:∀p o,k p=al o->iB Hi H p o)(E:cW K l k p n)(t:RC K H l k v r) :
  SR K H0 ps (Z.set i<|kindAt io n) σ l k/\RR K H0 ps (Z.set i<|kindAt io n) σ l k v r:=by
 let(q,eq,U):=S.at e;rw[ep]at eq;$$$eq;let((ob,B),hn):=U.some;let((A,F),G):=E.some;let Y:aj H (upd l p ob):=λb o C=>by
  ext(z:b=p)
  .$$z;rw[a9];rw[B]at C;$C
  rw[aA z];$(s b o C z)
 let I:aj k (upd l p ob):=xG R G;let J:RC K H (upd l p ob) k v r:=by
  cases r with
  |D d=>$t
  |O c0 =>
   let(u,D,y,m):=t;let L:u≠p:=λz=>by$$z;rw[B]at m;lk
   $({u,D,y.keeps (aA L) (aj.refl _) y.some.2,m})
 let(S1,rr):=S.after Y Q I nw J;let M:upd (upd l p ob) p A=l:=by
  rw[UY];funext b;ext(z:b=p)
  .$$z;rw[a9,F]
  rw[aA z]
 let N:=S1.write e ep (by rw[M];$E);simp[M]at N;$({N,?_});cases r with
 |D d=>$t
 |O c0 =>
  let(u,D,y,m):=t;$({u,D,y,(S.bJ m).2,(S.bJ m).1,λj d h z=>?_});ext(O:j=i)
  .$$O;rw[ep]at z;$$$z;rw[B]at m;lk
  rw[mu (Ne.symm O)]at h;$(S.dM m j d h z)
def sF(fn:fq)(i:Nat)(fa:AF):EF:=λZ=>((Z[i]?).bind ownOf).bind λ_=>(fa Z).bind λp=>((p.2[i]?).bind ownOf).bind λs=>(fn s.2 p.1).map λq=>(q.1,p.2.set i<|kindAt s.1 q.2)
theorem jL{Z:DS}{i:Nat}{b:Bool}{c:Dat}(h:(Z[i]?).bind ownOf=al (b,c)):Z[i]?=al (kindAt b c):=by
 cases z:Z[i]? with
 |none=>rw[z]at h;$(nO h)
 |some s=>rw[z]at h;rw[vp h]
def X9 (h:By X x (fR X.K j fn))(C:xF X (e::es) j i fa)(o:bz x:=by decide)(D:bD X e es:=by rfl)(s:(T' pos<|km es X.env).any (·.1)=bn:=by rfl):DE X (.Call (.Name x p) (e::es) [] pos) (sF fn i fa):=by let(E,CX,k,f,fd,pn,F,G,hm,I,J,L):=h;let(t,M,q):=C;$({_,Ag F G E hm I J .nil L M o D s,λH0 ps Z σ H Hi r Z' Q l S k=>?_});let(b0,c0,N,l):=oB l;let(ds,Z1,O,l):=oB l;let(io,c,u,l):=oB l;let(r',R,U,l):=oN l;dsimp at l;let(rfl,rfl):=sP l;let(a,m,_):=S.at<|jL N;$(q H0 ps Z σ H Hi ds Z1 _ _ O S m λvs H1 y n V W Y=>?_);let(b,z,ob):=n.at<|jL u;rw[m]at z;$$$z;$({y,a,c,ds,_,R,n.sub,by rw[nS];$W,ob,by rw[nS];$Y,U,λv H2 A a1 B a3 a4 oc rc=>?_});let(S2,rr):=n.ET (jL u) m a1 B a3 a4 oc rc;$(k v H2 A S2 (V.trans B) rr)
def jE(n j:Nat)(c:Dat)(ds:List Dat):DS:=(ds.map Slot.D).take j++.io c::(ds.map Slot.D).drop j++nE (n-ds.length-1) .no
def o9(n j:Nat)(f:SF):fq:=λc ds=>(f<|jE n j c ds).bind λo=>match o with
 |.next Z=>(match Z[j]? with|some (.io h)=>al (.D .aG,h)|_=>am)
 |.ret r Z=>(match Z[j]? with|some (.io h)=>al (r,h)|_=>am)
 |_=>am
theorem yS (hj:j<=ds.length)(h:(jE n j c ds)[k]?=al s) :
  (k<j/\∃d,ds[k]?=al d/\s=.D d)\/(k=j/\s=.io c)\/(j<k/\∃d,ds[k-1]?=al d/\s=.D d)\/s=.no:=by
 delta jE at h;let l:((ds.map Slot.D).take j).length=j:=by rw[iW,a8];lia
 ext(o:k<j)
 .rw[pw,kH (by simp?[l];$o),aeq o,dk]at h;cases e:ds[k]? with
  |none=>rw[e]at h;$(nO h)
  |some d=>simp!
 rw[pw,kq (by rw[l];lia),l]at h;ext(q:k=j)
 .$$q;rw[adz]at h;$$$$$$h;$(τ<|ι ⟨ρ,ρ⟩)
 let t:j<k:=by lia
 obtain⟨m,hm⟩:∃m,k-j=m+1:={k-j-1,by lia};simp[hm]at h;ext(u:m<((ds.map Slot.D).drop j).length)
 .rw[kH u,ac6,dk]at h;let y:j+m=k-1:=by lia
  rw[y]at h;cases e:ds[k-1]? with
  |none=>rw[e]at h;$(nO h)
  |some d=>rw[e]at h;$$$$$$h;$(τ<|τ<|ι ⟨t,d,ρ,ρ⟩)
 rw[kq (by lia),acu]at h;simp!
theorem U5{K:f'}{N:List eS}{vs:List V}{ds:List Dat}{H Hi:Hp}{j:Nat}{p:dn}{c:Dat}(s:aj Hi H)(hl:vs.length<=N.length)(A:vs[j]?=al (.ref p))(B:cW K H Hi p c)(r:aB K Hi ds (vs.eraseIdx j)) :
  SR K (H,Hi) (λk=>if k=j then al p else am) (jE N.length j c ds) (start N vs) H Hi:=by
 let D:=(cn.1 A).1;let hd:=r.length;rw[aef D]at hd;let n:j<=ds.length:=⋯;let st:∀{k:Nat}{v:V},vs[k]?=al v->(start N vs)[k]?=al (al v):=λ{k v} e=>by$$(start);rw[kH (by$$$$((cn.1 e).1)),dk,e];rfl
 let m:∀{k:Nat}{d:Dat},(jE N.length j c ds)[k]?≠al (.O d):=λ{k d} h=>by let(_,_,_,e)||(_,e)||(_,_,_,e)||e:=yS n h<;>lk
 let t:∀{k:Nat}{d:Dat},(jE N.length j c ds)[k]?=al (.io d)->k=j/\d=c:=λ{k d} h=>by
  let(_,_,_,e)||(a,e)||(_,_,_,e)||e:=yS n h
  .lk
  simp!
  .lk
  lk
 refine{s,λb o e _=>e,λq l=>?_,λk d e=>?_,λk d e=>absurd e m,λk d e=>?_,λk E d d' q F G z1 z2=>?_,?_,λq o e=>ι e}
 .let(k,z):=l;dsimp at z;$$$$$z
  .obtain rfl:=sO z;let((o,e),_):=B.some;rw[e];simp
  exact nO z
 .let (C,d',y,u)||(_,u)||(C,d',y,u)||u:=yS n e
  .cases u;let(v,a,b):=r.get y;rw[List.getElem?_eraseIdx_of_lt C]at a;$({v,st a,b})
  .lk
  .cases u;let(v,a,b):=r.get y;rw[List.getElem?_eraseIdx_of_ge (by lia)]at a;let:k-1+1=k:=by lia
   rw[this]at a;$({v,st a,b})
  lk
 .let(rfl,rfl):=t e;$({p,st A,B,⋯})
 .let I:k=j:=by
   let h||h:=F
   .cases m h
   exact(t h).1
  let J:E=j:=by
   let h||h:=G
   .cases m h
   exact(t h).1
  simp?[I,J]
 grind [jE,start]
theorem Ws{x y:eS}{st:aas}{f:dn}{Y:hO}{N ps:List eS}{k j:Nat}{fn:fq}{fb:SF}(F:bb K x y st f Y)(S:br N ps (aQ st))(O:∀c ds r,fn c ds=al r->ds.length+1=ps.length)
 (hb:∀(B:cm) (A:ow) (outer:List Env) (s:cA) (H:Hp) (E:XK),cF k (A.deeper<|abw y (aQ st) s.heap.objs.size f B)->gS (eV bc P w K mg base N y (aQ st) f B A outer s H E).jt (g9 st) fb)
 (hf:∀c ds r,fn c ds=al r->o9 N.length j fb c ds=al r):aV P w K mg base bc (k+1) f Y ps (fR K j fn):=by
 let L:∀{vs:List V}{H Hi:Hp}{p:dn}{c:Dat}{ds:List Dat}{r:Res×Dat},vs[j]?=al (V.ref p)->aB K Hi ds (vs.eraseIdx j)->fn c ds=al r->vs.length=ps.length:=λ{vs H Hi p c ds r} G rs e=>by let hj:=(cn.1 G).1;let:=rs.length;rw[aef hj]at this;let:=O c ds r e;lia
 let hpl:ps.length<=N.length:=by let:=congrArg List.length S.pre;rw[iW]at this;lia
 $(F.ok S (λvs H Q E h=>?_)<|λB A outer s H vs Q E hr h=>?_)
 .let(Hi,p,c,ds,r,c',sm,G,oc,rs,e,_):=h;$(L (H:=H) G rs e)
 let(Hi,p,c,ds,r,c',sm,G,oc,rs,e,kk):=h;let(t,pp,q):=hb B A outer s H E hr;$({t,pp,?_});let l:=hf c ds (r,c') e;unfold o9 at l;let hv:=L (H:=H) G rs e;let(o,e1,l):=oA l;let M:∀{Z:DS}{D:St}{u m:Hp}{I:Dat},SR K (H,Hi) (λk=>if k=j then al p else am) Z D u m->Z[j]?=al (.io I) ->
   (∀b o,H b=al o->b≠p->u b=al o)/\(∀p o,m p=al o->iB Hi H p o)/\cW K u m p I:=λ{Z D u m I} n J=>by
  $({λb o eb hb=>n.keep b o eb λ⟨k,z⟩=>?_,λp o e=>n.nw p o e,?_});simp!;let(p',a,b,c2):=n.io j I J;simp!
 apply q (H,Hi) _ (jE N.length j c ds) (start N vs) H Hi o _ e1<|U5 sm ∅ G oc rs;cases o with
 |next Z =>
  $(λD u m n s'=>?_);simp? at l;$$$$$l
  .ext1 I J;$$$l;let(R,U,W):=M n J;$(kk .aG u m R s' n.sub U W ρ)
  $(nO l)
 |ret r' Z =>
  $(λv D u m n s' rr=>?_);simp? at l;$$$$$l
  .ext1 I J;$$$l;let(R,U,W):=M n J;apply kk v u m R s' n.sub U W;cases r with
   |D d=>$rr
   |O c0=>let(p0,e',o,np,n0,_):=rr;$(⟨p0,e',o,n0⟩)
  $(nO l)
 |brk Z=>$(nO l)
 |cont Z=>$(nO l)
 |exc C Z=>$(nO l)
def dI{N:List eS}{x:eS}{i:Nat}(h:N.findIdx? (·==x)=al i):N[i]?=al x:=by let(c,j,_):=aba.1 h;simp!
def eA(i j:Int):Bool:=!(bd (ro i>acT)&&bd (ro j>acT)&&ab9 (ro i+ro j))
def mH(_ j:Int):Bool:=bd (0<j)&&bd (j.natAbs.log2<9000)
def EG(i j:Int):Bool:=bd (0<=j)&&bd (j<=1000000)&&bd (i.natAbs<2 ^ 64)
def SO(c:DD X a f)(h:DD X b g):DE X (.BinOp a .Add b pos) (cI gN f g):=ny PV Pe c h
def Qw(c:DD X a f)(h:DD X b g):DE X (.BinOp a .Sub b pos) (cI (fP (λ_ _=>true) λi j=>.int<|i-j) f g):=ny (D3 λ_ _ _ _ _ _ _ q=>sub_int q) (tS λ_ _ _ _=>rfl) c h
def O7(c:DD X a f)(k:DD X b g):DE X (.BinOp a .Mult b pos) (cI (fP eA λi j=>.int<|i*j) f g) :=
 ny (wo λ_ _ _ _ _ _ _ c q=>mul_int q c) (vn (λi j h=>by unfold eA at h;$$(IntMulOk);ext z;rw[z]at h;lk) λ_ _ _ _=>rfl) c k
def Sr(c:DD X a f)(k:DD X b g):DE X (.BinOp a .FloorDiv b pos) (cI (fP mH λi j=>.int<|i/j) f g) :=
 ny Ui (vn (λi j h=>by unfold mH at h;rw[e8]at h;$({of_decide_eq_true h.1,of_decide_eq_true h.2})) λ_ _ _ _=>rfl) c k
def So(c:DD X a f)(k:DD X b g):DE X (.BinOp a .Mod b pos) (cI (fP (λ_ j=>bd<|0<j) λi j=>.int<|i%j) f g) :=
 ny Q4 (vn (λi j h=>of_decide_eq_true h) λ_ _ _ _=>rfl) c k
def PL(c:DD X a f)(k:DD X b g):DE X (.BinOp a .Pow b pos) (cI (fP EG λi j=>.int<|i ^ j.toNat) f g) :=
 ny TQ (vn (λi j h=>by unfold EG at h;rw[e8,e8]at h;$({of_decide_eq_true h.1.1,of_decide_eq_true h.1.2,of_decide_eq_true h.2})) λ_ _ _ _=>rfl) c k
def Ku(c:X.A.units+64<u2)(h:DD X a f)(j:DD X b g):DT X (.Compare a [.Eq] [b] pos) (fT<|cI (dN false) f g):=oG (Dt c) xu h j<|kN _
def Pw(c:X.A.units+64<u2)(h:DD X a f)(j:DD X b g):DT X (.Compare a [.NotEq] [b] pos) (fT<|cI (dN true) f g):=oG (FU c) xu h j<|kN _
theorem Ta(c:DD X a f)(h:DD X b g):DT X (.Compare a [.Gt] [b] pos) (fT<|cI (fP (λ_ _=>true) λi j=>.bl<|bd<|j<i) f g):=oG FR (tS λ_ _ _ _=>rfl) c h<|kN _
theorem Tg(c:DD X a f)(h:DD X b g):DT X (.Compare a [.GtE] [b] pos) (fT<|cI (fP (λ_ _=>true) λi j=>.bl<|bd<|j<=i) f g):=oG (u6 λ_ _ _ _ _ _ _ q=>ge_int q) (tS λ_ _ _ _=>rfl) c h<|kN _
def QQ (h:X.N.findIdx? (·==x)=al i)(j:bV X.env.scope x)(hd:bz x)(c:cB x):DD X (.Name x pos) (eY i):=Wq i (dI h) j hd c
def SX (h:X.N.findIdx? (·==x)=al i)(j:bV X.env.scope x)(hd:bz x)(c:cB x):DE X (.Name x pos) (Bw i):=Nm i (dI h) j hd c
def Ay{x:eS}{e:hF}{f:EF}{c:u1}{i:Nat}(j:X.N.Nodup)(k:X.N.findIdx? (·==x)=al i)(l:Loc X.env.scope x)(m:X.fn x=bi\/X.env.scope.names.lookup x=some .local)
 (hs:z8 e (al<|.Name x c) pos.line X.env=pure false)(h:DE X e f):cw X (.Assign [.Name x c] e pos) (jx i f):=(λi j l m n h hs=>by
   let(t,p,q):=h;$({_,Ct j l m p hs n,λH0 ps Z σ H Hi o D e S k=>?_})
   let(r,Z1,s,e):=oB e;let(Z2,u,e):=oM e;$$$$$$e;$(q H0 ps Z σ H Hi r Z1 _ s S λv H' g w s' y=>k _ H' g (w.put y u) s')) i j (dI k) l m h hs
def Ri (o:X.N.findIdx? (·==x)=al i)(q:bV X.env.scope x)(hd:bz x)(n:cB x)(s:∀v,abL (.Subscript (.Name x j) c pt) X.env v=(do
   let k <-aaB [v] (eval (.Name x j) X.env);let l <-aaB [v,k] (eval c X.env)
   adX pt
   aaB [v,k,l] (afq k l v)
   release [v,k,l] []))(hs:ae4 [.Subscript (.Name x j) c pt] e pos.line X.env=pure false)(hw:ae5 [.Subscript (.Name x j) c pt] e X.env=pure am)(t:(u3 [.Subscript (.Name x j) c pt] X.env).map (·.2)=[abL (.Subscript (.Name x j) c pt) X.env])(h:DD X e f)(u:DD X c m):cw X (.Assign [.Subscript (.Name x j) c pt] e pos) (nJ i m f):=SD i (dI o) q h u hd n s hs hw t
abbrev OF:=DS->Option (Option Int×DS)
def Nd(X:Cx)(f:OF)(t:TO):Prop:=∀(H0:Hp×Hp) (ps:Nat->Option dn) (Z:DS) (σ:St) (H Hi:Hp) (o:Option Int) (c:DS) (Q:Option Int->Hp->Prop),f Z=al (o,c)->SR X.K H0 ps Z σ H Hi->zm X.K H0 ps σ Hi (Q o) c->t σ H Q
inductive DO (X:Cx) (e:Option hF) (f:OF):Prop
 |mk (t:TO) (p:PO X e t) (q:Nd X f t)
def rj:OF:=λZ=>al (am,Z)
def jT(f:DF):OF:=λZ=>(f Z).bind λp=>match p.1 with
 |.int i=>al (al i,p.2)
 |_=>am
def cutD (xs:List c)(lo h:Option Int):List c:=(xs.drop<|bu xs.length 0 lo).take (bu xs.length xs.length h-bu xs.length 0 lo)
def fQ:Dat->Option Int->Option Int->Option Res
 |.L ds,lo,c=>al (.O<|.L<|cutD ds lo c)
 |.bQ ns,lo,c=>al (.O<|.L<|(cutD ns lo c).map Dat.int)
 |.U ds,lo,c=>if bu ds.length 0 lo=0/\bu ds.length ds.length c=ds.length then am else al (.D<|.U<|cutD ds lo c)
 |_,_,_=>am
def jH(f:DF)(l h:OF):EF:=λZ=>(f Z).bind λp=>(l p.2).bind λq=>(h q.2).bind λr=>(fQ p.1 q.1 r.1).map λo=>(o,r.2)
def RW(ns)(lo c):jC (ns.map V.int) lo c=(cutD ns lo c).map V.int:=by delta jC cutD;rw[a8,aby,aax]
theorem aB.take{K:f'}{H:Hp}:∀{ds:List Dat}{vs:List V}(n:Nat),aB K H ds vs->aB K H (ds.take n) (vs.take n)
 |[],_,n,h=>by simp?[show _=[]from h,agC,agC];$ρ
 |_::_,_,0,c=>by let(v,r,e,q,t):=c;rw[e];$ρ
 |_::_,_,n+1,c=>by let(v,r,e,q,t):=c;$({v,r.take n,by rw[e];rfl,q,aB.take n t})
theorem aB.drop{K:f'}{H:Hp}:∀{ds:List Dat}{vs:List V}(n:Nat),aB K H ds vs->aB K H (ds.drop n) (vs.drop n)
 |[],_,n,h=>by simp?[show _=[]from h,agD,agD];$ρ
 |_::_,_,0,h=>h
 |_::_,_,n+1,c=>by let(v,r,e,q,t):=c;rw[e];$(aB.drop n t)
theorem aB.cut{K:f'}{H:Hp}{ds:List Dat}{vs:List V}(lo c:Option Int)(r:aB K H ds vs):aB K H (cutD ds lo c) (jC vs lo c):=by delta cutD jC;rw[r.length];$(aB.take _<|aB.drop _ r)
def Xc:DO X am rj:={_,Sn,λH0 ps Z σ H Hi o Z' Q e S k=>by let(rfl,rfl):=sP e;$(k H Hi S<|aj.refl _)}
def W6 (h:DD X e f):DO X (al e) (jT f):=by
 let(t,p,q):=h;$({_,Oj p,λH0 ps Z σ H Hi o Z' Q e S k=>?_});let(d,Z1,j,e):=oB e;dsimp at e;$$$$$e
 .let(rfl,rfl):=sP e;$(q H0 ps Z σ H Hi _ _ _ j S λv l c m s' r=>{_,r,k l c m s'})
 $(nO e)
theorem OJ{f:DF}{l h:OF}{lo D:Option hF}(I:DD X e f)(hl:DO X lo l)(hh:DO X D h):DE X (.Subscript e (.Slice lo D am p2) pos) (jH f l h):=by
 let(t,p,q):=I;let(tl,J,L):=hl;let(th,M,N):=hh;$({_,VJ (ng.or VV O8) p J M,λH0 ps Z σ H Hi o Z' Q j S k=>?_});let(d,Z1,O,j):=oB j;cases A:l Z1 with
 |none=>rw[A]at j;$(nO j)
 |some lp =>
  let(a,Z2):=lp;rw[A]at j;simp at j;let(b,Z3,R,j):=oB j;dsimp at j;let(o',m,j):=oM j;$$$j;$(q H0 ps Z σ H Hi d Z1 _ O S λv U E V B W=>?_);$(L H0 ps Z1 σ U E a Z2 _ A V λY F S2 s=>?_);$(N H0 ps Z2 σ Y F b _ _ R S2 λH3 y c u=>?_);let C:=Rep.mono (s.trans u) W;cases d with
  |L ds =>
   cases sO m;let(p,vs,rfl,n,rs):=C;$(ι {p,vs,ρ,ι<|Rd.mono c.sub n,λz hz=>?_});$(k (.ref z) _ y (c.made hz) ((B.trans s).trans u) {z,ρ,{_,a9,aB.cut a b rs,c.dv hz},(c.bJ hz).2,(c.bJ hz).1,c.dM hz})
  |bQ ns=>$$$$$$m;let(p,rfl,n):=C;$(ι {p,_,ρ,cC.mono c.sub n,λz hz=>?_});$(k (.ref z) _ y (c.made hz) ((B.trans s).trans u) {z,ρ,{_,a9,by rw[RW];$(aB.ints _),c.dv hz},(c.bJ hz).2,(c.bJ hz).1,c.dM hz})
  |U ds =>
   let m:(if bu ds.length 0 a=0/\bu ds.length ds.length b=ds.length then am else al (Res.D<|.U<|cutD ds a b))=al o:=m;$$$$$m
   .$(nO m)
   ext1 hn;$$$$$$m;let(p,vs,rfl,n,rs):=C;$(τ {p,vs,ρ,bf.mono c.sub n,by rw[rs.length];$hn,λz hz=>?_});let(S4,G):=c.laid hz;$(k (.ref z) _ _ S4 (((B.trans s).trans u).trans G) {z,_,ρ,bf.of a9,aB.mono G<|aB.cut a b rs})
  |_=>$(nO m)
def rN(k:Nat)(p:dn):Nat->Option Addr:=λm=>if m=k then al p else am
def A3{k:Nat}{p b:dn}(h:iH (rN k p) b):b=p:=by obtain⟨m,z⟩:=h;delta rN at z;simp!
def X7{caps:List (Option Nat)}{Z:DS}{H Hi:Hp}{k j:Nat}{p:dn}{c:Dat}(S:SR K H0 ps Z σ H Hi)(t:caps[k]?=al (al j))(ep:σ[j]?=al (al<|.ref p))(u:cW K H Hi p c) :
  SR K (H,Hi) (rN k p) ((cz caps Z).set k (.io c)) (fV caps σ) H Hi:=by
 let y:k<(cz caps Z).length:=by delta cz;rw[a8];$((cn.1 t).1)
 let other:∀{m:Nat}{s:Slot},m≠k->((cz caps Z).set k (.io c))[m]?=al s->(cz caps Z)[m]?=al s:=λ{m s} hm h=>by rwa[mu (Ne.symm hm)]at h
 let ad3:∀{s:Slot},((cz caps Z).set k (.io c))[k]?=al s->s=.io c:=λ{s} h=>by rw[qz y]at h;$((Option.some.inj h).symm)
 let n:∀{m:Nat}{d:Dat},(((cz caps Z).set k (.io c))[m]?=al (.O d)\/((cz caps Z).set k (.io c))[m]?=al (.io d))->m=k:=λ{m d} h=>by
  ext(hm:m=k)
  .$hm
  let h||h:=h
  .$(absurd (other hm h) oV.1)
  $(absurd (other hm h) oV.2)
 $({S.sub,λb o e _=>e,λq l=>?_,λm d e=>?_,λm d e=>?_,λm d e=>?_,λm m' d d' q A B _ _=>(n A).trans (n B).symm,?_,λq o e=>ι e})
 .rw[A3 l];let((o,e),_):=u.some;rw[e];simp
 .let hm:m≠k:=λz=>by$$z;cases ad3 e
  let(C,D,E):=FE<|other hm e;let(v,a,b):=S.D C d E;$({v,Cc D a,b})
 .let hm:=n<|ι e;$$hm;cases ad3 e
 .let hm:=n<|τ e;$$hm;cases ad3 e;$({p,Cc t ep,u,by$$(rN);rw[if_pos ρ]})
 simp[cz,fV]
theorem SE{caps:List (Option Nat)}{kb j:Nat}{U:TI}{fi:IF}{g:GF}{fc:BF}{fe:DF}
 (qi:∀(H0:Hp×Hp) (ps:Nat->Option dn) (Z:DS) (σ:St) (H Hi:Hp) (items:List Dat) (A:DS) (R:It->Hp->Prop),fi Z=al (items,A)->SR X.K H0 ps Z σ H Hi->(∀J M C,SR X.K H0 ps A σ M C->aj Hi C->JW X.K J items C->R J M)->U σ H R)
 (H0:Hp×Hp)(ps:Nat->Option dn)(Z:DS)(σ:St)(H Hi:Hp)(r:Res)(A:DS)(Q:VK)(h:fD caps (al (kb,j)) fi g fc fe Z=al (r,A))(S:SR X.K H0 ps Z σ H Hi)
 (k:∀v s u,SR X.K H0 ps A σ s u->aj Hi u->RR X.K H0 ps A σ s u v r->Q v s):xA (fV caps) U (mi X.K g) (mO X.K fc) (l9 X.K fe) σ H Q:=by
 let(items,Z1,e1,h):=oB h;dsimp at h;$$$$$h
 .ext1 ek;$(qi H0 ps Z σ H Hi items Z1 _ e1 S λJ M C S1 s1 jw=>?_);ext D V;let(Hi2,O,Y):=qT (al (kb,j)) caps S1;let go:∀(io:Bool) (c:Dat),(bA (al (kb,j)) caps Z1)[j]?=al (kindAt io c)->∀(n:List Dat) (B:DS) (z:Dat),compLoop g fc fe items [] ((cz caps<|bA (al (kb,j)) caps Z1).set kb (.io c))=al (n,B)->B[kb]?=al (.io z) ->
    r=.O (.L n)->A=(bA (al (kb,j)) caps Z1).set j (kindAt io z) ->
    ∃W:Nat->Nat->St->Hp->Prop,(∃m,W 0 m (fV caps σ)<|upd M D<|.L [])/\∀i m G s,W i m G s->(J.stop i s/\Q (.ref D) s)\/(J.go i s/\∀x N,J.nZ i s x N->mi X.K g x G N λE H2=>mO X.K fc E H2 λb H3 =>
     if b=bi then l9 X.K fe E H3 λy H4=>∃ys,H4 D=al (.L ys)/\ys.length<c6/\∃I,I<m/\W (i+1) I E (upd H4 D<|.L<|ys++[y])
     else∃I,I<m/\W (i+1) I E H3):=by
   ext io c F n B z t L er ed;$$er;$$ed;let(p,ep,op):=O.at F;$(EK (X7 O ek ep op) (by
     delta noOwn;rw[kz];ext s hs;let h||h:=List.mem_or_eq_of_mem_set hs
     .$(kz.1 (EZ) s h)
     rw[h]) V (jw.mono Y) t λG s u vs S' sm YD nb eD ra hd=>?_)
   let(q,_,oq,eq):=S'.io kb z L;let hq:=A3 ⟨kb,eq⟩;$$hq;let(S3,rr):=O.ET (r:=.O<|.L n) F ep (λb o e hb=>YD b o e λl=>hb<|A3 l) sm S'.sub nb oq {D,ρ,⟨vs,eD,ra,hd⟩,V};$(k (.ref D) s u S3 ((s1.trans Y).trans sm) rr)
  $$$$$h
  .ext1 c F;cases t:compLoop g fc fe items [] ((cz caps<|bA (al (kb,j)) caps Z1).set kb (.io c))with
   |none=>rw[t]at h;$(nO h)
   |some q =>
    let(n,B):=q;rw[t]at h;simp at h;$$$$$h
    .ext1 z L;$$$h;$(go false c F n B z t L ρ ρ)
    $$$h
  .ext1 c F;cases t:compLoop g fc fe items [] ((cz caps<|bA (al (kb,j)) caps Z1).set kb (.io c))with
   |none=>rw[t]at h;$(nO h)
   |some q =>
    let(n,B):=q;rw[t]at h;simp at h;$$$$$h
    .ext1 z L;$$$h;$(go true c F n B z t L ρ ρ)
    $$$h
  $(nO h)
 $(nO h)
def KA{NB:List eS}{caps:List (Option Nat)}{scope:aah}{elt iter k:hF}{ifs:List hF}{fi:IF}{g:GF}{fc:BF}{fe:DF}(kb j:Nat)(m:X.calm=bi)(B:jW X.env.scope scope)(l:iG X.N NB scope caps=bi)(n:dC X k iter fi)
 (o:∀(cl:List (eS×dn)) (C:dn) (c:cA) (H:Hp) (h:List dn),DG (cy X NB scope cl C c H h) k g)(q:∀(cl:List (eS×dn)) (C:dn) (c:cA) (H:Hp) (h:List dn),mf (cy X NB scope cl C c H h) ifs fc)
 (s:∀(cl:List (eS×dn)) (C:dn) (c:cA) (H:Hp) (h:List dn),DD (cy X NB scope cl C c H h) elt fe)(hs:∀x,um iter X.env x=pure x:=by ext _;rfl) :
  DE X (.ListComp elt [{k,iter,ifs,0}] scope pos) (fD caps (al (kb,j)) fi g fc fe):=by
 let(wi,t,u):=n;$({_,Kd (tc:=mO X.K fc) m B l t (λcl C c H h=>{(o cl C c H h).oH,q cl C c H h,(s cl C c H h).oH}) hs,SE u})
def Ao:Dat->List Dat->Option (Dat×Dat)
 |.L _,[]=>al (.aG,.L [])
 |_,_=>am
theorem Qa:MD K "list" Gb Ao:=by
 ext H Hi p c ds vs d c' Q e sm ho r k;unfold Ao at e;$$$$$e
 .let(rfl,rfl):=sP e;let(h,j,h2,l):=ho;$$r;$({p,h,ρ,ρ,j,k .aG _ {_,a9,ρ,l} ρ})
 $(nO e)
end
def Cb(i:Nat)(a:Dat->List Dat->Option (Dat×Dat)):DF:=λZ=>((Z[i]?).bind ownOf).bind λs=>if Ke s.2=bi then(a s.2 []).map λq=>(q.1,Z.set i<|kindAt s.1 q.2)else am
section
variable{X:Cx}{pos apos:u1}
theorem L9 (i:Nat)(p:PE X (.Call (.Attribute (.Name x e) m apos) [] [] pos) (Gg X.K "list" r<|uh i))(hm:MD X.K "list" r f) :
  DD X (.Call (.Attribute (.Name x e) m apos) [] [] pos) (Cb i f):=by
 $({_,p,λH0 ps Z σ H g d Z' Q b S k=>?_});unfold Cb at b;let(io,c,h,b):=oB b;dsimp at b;$$$$$b
 .ext1 hl;let(d',q,s,b):=oN b;dsimp at b;let(rfl,rfl):=sP b;let(a,j,l):=S.at<|jL h;cases c with
  |L xs=>let(n,h0,_,_):=id l;$({.ref a,j,ι {ρ,n,cC.of h0},?_});$(hm H g a _ [] [] d' q Q s S.sub l ρ λv o o1 t=>k v _ g (S.write (jL h) j o1) (aj.refl _) t)
  |_=>lk
 $(nO b)
end
def uR(d:Dat)(ds:List Dat):Option Nat:=(dG ds).findIdx? λy=>aai y<|toPy d
def FI(K:f'):V->List V->Hp->VK->Prop:=λx vs H Q=>∃a ds d y p b j,x=.ref p/\vs=[y]/\aj a H/\Rd H p (.L b)/\aB K a ds b/\Rep K a d y/\bU (.L ds)=bi/\bU d=bi/\uR d ds=al j/\Q (.int (j:Int)) H
section
variable{X:Cx}{P:hZ}{w:nL}{K:f'}{mg:eS->Option cm}{base:nk}
def LH(r:X.A.units+65<u2):uk X "list.index" (FI X.K):=by
 ext pins s σ H x vs v us Q I t B h;let(Hi,ds,d,y,p,ws,j,rfl,rfl,sm,C,rs,D,c,b,E,q):=h;$$t;let(u,rfl,G):=B.one;let(z,its,n,f,e):=C.ok I.ao;let c:=l5.1 c;let b:=l5.1 b;let(as,i):=xl I sm (c.1) rs f;let(bs,J):=j9 I sm b.1 D G;let k1:=qt c.2;let k2:=qt b.2;let hm:=SeqAt.readsAll_map _ _ _ k1 i;let(hj,hit,k):=aba.1 E;let hl:its.length=(dG ds).length:=by simp?[<-hm,a8]
 let get:∀(m:Nat) (h:m<its.toArray.size),abM s.heap its.toArray[m]=(dG ds)[m]'(by simp!):=λm h=>by
  let a:(its.map<|abM s.heap)[m]?=al (abM s.heap its.toArray[m]):=by
   rw[dk];let:its[m]?=al its.toArray[m]:=⋯
   rw[this];rfl
  rw[hm]at a;rw[bt (by rw[<-hl];$$$$h)]at a;$((Option.some.inj a).symm)
 let g:j<its.toArray.size:=by simp!
 let hz:=f.length;let l63:=mL;$(aco aeW {_,e,ρ} F.entry_list_index (F.args_list_index_2 _ _)
  (SeqAt.list_indexAt p its.toArray n am #[] u (λw=>aai (abM s.heap w)<|toPy d) j g ?_ ?_ λm l o=>?_) {e,SeqAt.items_eqAt (by$$$$i) J k1 k2<|acq b.2 r,?_})
 lia
 .rwa[get j g]
 .rw[get m l];$(acd.2<|k m o)
 $({.int (j:Int),H,I.tok _,{_,ρ},q})
def tJ(f:DF)(fa:AF):DF:=λZ=>(f Z).bind λp=>(fa p.2).bind λq=>match p.1,q.1 with
 |.L ds,[d]=>if bU (.L ds)&&bU d then(uR d ds).map λj:Nat=>(.int (j:Int),q.2)else am
 |_,_=>am
theorem Mt (ho:DD X o f)(D:DA X [e] fa)(E:∀{to:TE}{t:TA},PE X o to->PA X [e] t->PE X (.Call (.Attribute o "index" g) [e] [] pos) (vJ X.K "list" (FI X.K) to t)):DD X (.Call (.Attribute o "index" g) [e] [] pos) (tJ f fa):=by
 let(to,F,G):=ho;let(t,p,q):=D;$({_,E F p,λr s Z u H I d Z' Q b S k=>?_});let(c,Z1,J,b):=oB b;cases l:fa Z1 with
 |none=>rw[l]at b;$(nO b)
 |some ap =>
  let(as,Z2):=ap;rw[l]at b;dsimp[mv]at b;$$$$$b
  .ext1 ds x;$$$$$b
   .ext1 h;let h:=l5.1 h;let(j,L,b):=oM b;let(rfl,rfl):=sP b;$(G r s Z u H I _ Z1 _ J S λv M z A N O=>?_);let(a,B,rfl,C,rs):=O;$({ι {ρ,B,ι<|Rd.mono A.sub C},q r s Z1 u M z _ _ _ l A λvs R i m n T=>?_});let(y,yr,rfl,U,V):=T;$$V;$({i,ds,x,y,a,B,j,ρ,ρ,m.sub,Rd.mono m.sub<|Rd.mono n C,aB.mono n rs,U,h.1,h.2,L,k _ R i m (N.trans n) ρ})
   $(nO b)
  $(nO b)
def bb.Wa{x a:eS}{st:aas}{f:dn}{e:hO}{N d:List eS}{k:Nat}{sp:Sp}(F:bb K x a st f e)(S:br N d (aQ st))(len:∀vs H Q E,sp vs H Q E->vs.length=d.length)
 (c:∀(b:cm) (A:ow) (outer:List Env) (s:cA) (H:Hp) (vs:List V) (Q:VK) (E:XK),cF k (A.deeper<|abw a (aQ st) s.heap.objs.size f b)->sp vs H Q E ->
   ∃t,gu (eV (fU P w) P w K mg base N a (aQ st) f b A outer s H E) (g9 st) t/\t {nx:=λ_ i=>Q .aG i,rt:=Q} (start N vs) H):aV P w K mg base (fU P w) (k+1) f e d sp:=by
 let(oc,od,kV,doc,pm,an,b,ct,osl,rfl,lk,g):=F.ex;$(GX lk g S len λA outer s H vs Q E j h=>c b A outer s H vs Q E j h)
def PS.jt{X:Cx}{st:aas}{t:TS}(h:PS X.jt st t):PS X st t:=λa s b H D I hw =>
 z6 (h a s b H D (I.jX _) hw) (λ_ _ q=>SP.lY q) λ_ _ z=>z.elim
inductive si where
 |ok (r:Res)|exc (C:dn)
abbrev kZ:=List Dat->Option si
def Sf(K:f')(H d:Hp)(Q:VK)(E:XK):si->Prop
 |.ok r=>∀v c b,aj H c->aj d b->aj b c->(∀p o,b p=al o->iB d H p o)->RC K H c b v r->Q v c
 |.exc C=>∀a c b,aj H c->aj d b->aj b c->(∀p o,b p=al o->iB d H p o)->E (.ref C) (al a) c
def pC(K:f')(fn:kZ):Sp:=λvs H Q E=>∃a ds r,aj a H/\aB K a ds vs/\fn ds=al r/\Sf K H a Q E r
def jd(n:Nat)(f:SF):kZ:=λds=>(f<|eJ n ds).bind λo=>match o with
 |.next _=>al (.ok<|.D .aG)
 |.ret r _=>al (.ok r)
 |.exc C _=>al (.exc C)
 |_=>am
theorem Xg{x n:eS}{st:aas}{f:dn}{I:hO}{N D:List eS}{k:Nat}{fn:kZ}{fb:SF}(F:bb K x n st f I)(S:br N D (aQ st))(G:∀ds r,fn ds=al r->ds.length=D.length)
 (L:∀(u:cm) (A:ow) (outer:List Env) (s:cA) (H:Hp) (E:XK),cF k (A.deeper<|abw n (aQ st) s.heap.objs.size f u)->gS (eV (fU P w) P w K mg base N n (aQ st) f u A outer s H E) (g9 st) fb)
 (M:∀ds r,fn ds=al r->jd N.length fb ds=al r):aV P w K mg base (fU P w) (k+1) f I D (pC K fn):=by
 $(F.Wa S (λvs H Q E h=>?_)<|λu A outer s H vs Q E O h=>?_)
 .let(y,ds,r,s,rs,e,_):=h;rw[rs.length];$(G ds r e)
 let(y,ds,r,sm,rs,e,B):=h;let(t,p,q):=L u A outer s H E O;$({t,p,?_});let m:=M ds r e;let(o,R,m):=oA m;let nw:∀{Z:DS}{l:St}{j i:Hp},SR K (H,y) (λ_=>am) Z l j i->∀p o,i p=al o->iB y H p o:=λg p o e=>g.nw p o e;let kp:∀{Z:DS}{l:St}{j i:Hp},SR K (H,y) (λ_=>am) Z l j i->aj H j:=λg b o e=>g.keep b o e<|λ⟨_,z⟩=>by$(nO z)
 $(q (H,y) (λ_=>am) (eJ N.length ds) (start N vs) H y o _ R (Jj sm rs) ?_);cases o with
 |next Z=>$$$$$$m;$(λl j i g s'=>B .aG j i (kp g) s' g.sub (nw g) ρ)
 |ret T Z =>
  $$$$$$m;$(λv l j i g s' J=>B v j i (kp g) s' g.sub (nw g) ?_);cases T with
  |D d=>$J
  |O c=>let(p,U,o,np,V,_):=J;$(⟨p,U,o,V⟩)
 |brk Z=>$(nO m)
 |cont Z=>$(nO m)
 |exc C Z =>
  $$$$$$m;$(λl j i g s'=>{WW λa=>?_,λa=>Tj ?_})
  .$(B a j i (kp g) s' g.sub<|nw g)
  $(B a j i (kp g) s' g.sub<|nw g)
end
section
variable{X:Cx}{pos:u1}{K:f'}{H:Hp}{a b e:hF}{es:List hF}
def qQ(C:dn)(fa:AF):SF:=λZ=>(fa Z).bind λp=>if p.1.length<=c6 then al (.exc C p.2)else am
def SV (p:afB B c f i)(r:aep X.K C i c=bi)(h:X.A.handled=am)(s:Gl X x)(hm:X.mg x=al (.ref C))(u:DA X (e::es) fa)(j:bz x:=by decide)(v:bD X e es:=by rfl)(k:(T' g<|km es X.env).any (·.1)=bn:=by rfl) :
  cw X (.Raise (al<|.Call (.Name x n) (e::es) [] g) am pos) (qQ C fa):=by
 let(t,w,q):=u;$({_,Kr p r h s hm w j v k,λy z Z l H E o D d S F=>?_});let(ds,Z1,G,d):=oB d;$$$$$d
 .ext1 hz;$$$$$$d;$(q y z Z l H E ds _ _ G S λvs I m J L M=>{by rw[M.length];$hz,(F l I m J L).1})
 $(nO d)
def wt(f:SF):SF:=λZ=>match f Z with
 |some (.exc _ _)=>am
 |o=>o
theorem cw.calm{st:aas}{f:SF}(h:cw X.jt st f):cw X st (wt f):=by
 let(t,p,q):=h;$({t,p.jt,λi j Z k H l o D c S m=>?_});unfold wt at c;let g:f Z=al o/\∀C d,o≠.exc C d:=by
  $$$$$c
  .$(nO c)
  ext1 h;$({c,λC d z=>h C d (by rw[c,z])})
 $(q i j Z k H l o D g.1 S ?_);cases o with
 |exc C d=>$(absurd ρ (g.2 C d))
 |_=>$m
def PE.or (h:PE X e t)(h':PE X e u):PE X e (λc H Q=>t c H Q\/u c H Q):=λd s c H Q I q=>q.elim (h d s c H Q I)<|h' d s c H Q I
theorem PS.or{X:Cx}{e:aas}{t u:TS}(h:PS X e t)(h':PS X e u):PS X e (λD c H=>t D c H\/u D c H):=λd s c H D I q=>q.elim (h d s c H D I)<|h' d s c H D I
def PG.or (h:PG X e t)(h':PG X e u):PG X e (λv c H Q=>t v c H Q\/u v c H Q):=λd s c H v z Q I r q=>q.elim (h d s c H v z Q I r)<|h' d s c H v z Q I r
def UI(n:Nat)(t:jR):TG:=λv c H Q=>∃a xs,v=.ref a/\Rd H a (.L xs)/\xs.length=n/\t xs c H Q
def N6 (i:X.calm=bi)(h:qZ X es t)(j:(u3 es X.env).length=n:=by rfl)(d:(u3 es X.env).findIdx? (·.1)=am:=by rfl):PG X (.Tuple es k pos) (UI n t):=by ext c s f H v u Q I r hw;let(a,xs,l,p,hl,hw):=hw;$$l;$$r;let(z,its,m,g,e):=p.ok I.ao;let q:s.heap.IsList a its.toArray:={_,e,ρ,m,ρ};$(bg<|adB ?_);delta unpack;rw[show(u3 es X.env).length=its.toArray.size by simp[j,<-hl,g.length],d];$(bg<|pl (W.kun_itemsOf (I.ok.hd i) q λh' w=>?_));let x:=I.kept (t':=s.toks) λb o e=>w b o (gD<|fj e) e;$(h c _ f H xs _ Q x (g) hw)
def A0(n:Nat)(c:List Dat->DS->Option DS):GF
 |.U ds,Z=>if ds.length=n then c ds Z else am
 |.L ds,Z=>if ds.length=n then c ds Z else am
 |_,_=>am
def Wn (i:X.calm=bi)(h:nV X es g)(j:(u3 es X.env).length=n:=by rfl)(c:(u3 es X.env).findIdx? (·.1)=am:=by rfl):DG X (.Tuple es k pos) (A0 n g):=by
 let(t,p,q):=h;$({_,PG.or (Wj i p j c)<|N6 i p j c,λl m Z o H s d u v Q e S r k=>?_});unfold A0 at e;$$$$$e
 .$$$$$e
  .ext1 hl;let(a,vs,rfl,f,rs):=r;$(ι {a,vs,ρ,bf.mono S.sub f,by rw[rs.length];$hl,q l m Z o H s _ u vs Q e S rs k})
  $$$e
 .$$$$$e
  .ext1 hl;let(a,vs,rfl,f,rs):=r;$(τ {a,vs,ρ,Rd.mono S.sub f,by rw[rs.length];$hl,q l m Z o H s _ u vs Q e S rs k})
  $$$e
 $(nO e)
def DX:Dat->String
 | .aG=>"NoneType" | .bl _=>"bool" | .int _=>"int" | .str _=>"str" | .U _=>"tuple" | .L _=>"list" | .bK _=>"dict" | .exc _=>"" | .ins _ _=>"" | .bQ _=>"" | .adr _=>"" | .cN _=>"" | .bh _ _=>""
def vA(T c:String):Bool:=T==c||(T == "bool" && c == "int")
def yq:List String:=["tuple","list","str","int","bool"]
def S6:∀T∈["NoneType","bool","int","str","tuple","list","dict"],∀c∈yq,aak [] (.type T) (.type c)=al (vA T c):=by decide +kernel
def pI (h:T∈["NoneType","bool","int","str","tuple","list","dict"])(h':c∈yq):aak K (.type T) (.type c)=al (vA T c):=by rw[<-S6 T h c h'];rfl
def isExc:Dat->Bool
 |.exc _=>true
 |.ins _ _=>true
 |.bQ _=>true
 |.adr _=>true
 |.cN _=>true
 |.bh _ _=>true
 |_=>false
def lC(d:Dat)(T:String):Option Bool:=if isExc d=bn/\T∈yq then al (vA (DX d) T)else am
def We(K:f'):List V->Hp->VK->Prop:=λxs H Q=>∃c d x T b,xs=[x,.ty T]/\aj c H/\Rep K c d x/\lC d T=al b/\Q (.bl b) H
theorem JS:bN X (.builtin "isinstance") (We X.K):=by
 ext m s D H xs us Q I r h;obtain⟨Hi,d,x,T,b,rfl,sm,g,e,q⟩:=h;let(u,c,rfl,j,v):=r.two;$$v;delta lC at e;$$$$$e
 case isFalse=>$(nO e)
 case isTrue hh =>
  $$$$$$e;let(hx,k):=hh;let f:∀tk,EP X m D Q (.bool<|vA (DX d) T) {s with toks:=tk}:=λtk=>{.bl _,H,I.tok _,ρ,q};cases d with
  |aG=>$$g;$$j;$(ab6 W.kitx_none I.fY abo (pI ⋯ k) (λz=>nomatch z) f)
  |bl y=>$$g;$$j;$(ab6 W.kitx_bool I.fY abo (pI ⋯ k) (λz=>nomatch z) f)
  |int i=>$$g;let(t,rfl):=j;$(ab6 W.kitx_int I.fY abo (pI ⋯ k) (λz=>nomatch z) f)
  |str y=>$$g;let(t,rfl):=j;$(ab6 W.kitx_str I.fY abo (pI ⋯ k) (λz=>nomatch z) f)
  |U ds=>let(p,vs,rfl,w,_):=g;$$$j;let(its,_,(o,l,A,_),_):=I.tuple<|bf.mono sm w;$(ab6 W.kitx_tuple I.fY ⟨o,l,A⟩ (pI ⋯ k) (λz=>nomatch z) f)
  |L ds=>let(p,vs,rfl,w,_):=g;$$$j;let(z,its,n,_,l):=(Rd.mono sm w).ok I.ao;$(ab6 W.kitx_list I.fY {_,l,ρ} (pI ⋯ k) (λz=>nomatch z) f)
  |bK B=>let(p,kvs,rfl,E,_):=g;$$$j;let(_,_,ws,_,o,es,ep,l,A,_):=I.ao p _<|sm _ _ E;$(ab6 W.kitx_dict I.fY ⟨o,l,A.1⟩ (pI ⋯ k) (λz=>nomatch z) f)
  |exc C=>lk
  |ins C fs=>lk
  |bQ ns=>lk
  |adr p=>lk
  |cN B=>lk
  |bh fz B=>lk
def kO(T:String)(f:DF):DF:=λZ=>(f Z).bind λp=>(lC p.1 T).map λb=>(.bl b,p.2)
def rT (r:DD X e f)(j:Gl X "isinstance")(l:X.mg "isinstance"=am)(m:Gl X g)(n:X.mg g=am)(s:ZH g=al (.type T))(u:g≠"__name__":=by decide)(hd:bz g:=by decide)(hs:bD X e [.Name g q]:=by rfl):DD X (.Call (.Name "isinstance" p) [e,.Name g q] [] pos) (kO T f):=by let(t,w,x):=r;$({_,kD JS j l (by decide +kernel) (bW w (bW (yz (v:=.ty T) m n s ρ u hd) fF ρ) hs) ⋯ ρ hs ρ,λy z Z A H B d Z' Q h S k=>?_});let(c,Z1,C,h):=oB h;let(b,D,h):=oM h;let(rfl,rfl):=sP h;$(x y z Z A H B c _ _ C S λv E i o F G=>{i,c,v,T,b,ρ,o.sub,G,D,k _ E i o F ρ})
def Su(K:f'):List V->Hp->VK->Prop:=λxs H Q=>∃d C x c u b,xs=[x,c]/\RelV c u/\aj d H/\Rep K d (.exc C) x/\lF K C/\aak K (.ref C) u=al b/\Q (.bl b) H
theorem E5(g:PySem.Slot "ValueError" "__getattribute__" "BaseException.__getattribute__"):bN X (.builtin "isinstance") (Su X.K):=by
 ext pins s σ H xs us Q I r h;let(Hi,C,x,c,u,b,rfl,d,sm,(a,rfl,i),k,e,q):=h;let(xv,j,rfl,l,f):=r.two;$$l;let m:j=u:=by
  cases c with
  |ref z=>$$f;$$d;rfl
  |ty z=>$$f;$$d;rfl
  |aG=>$$f;$$d;rfl
  |bl z=>$$f;$$d;rfl
  |_=>let(t,z):=d;$$z;$(absurd e (by dsimp[aak,W.kitCls];simp))
 $$m;let(n,_,_):=(I.ao a _<|sm _ _ i);$(ab6 (Jv k g) I.fY n e (λz=>nomatch z) λtk=>{.bl _,H,I.tok _,ρ,q})
def rA(neg:Bool):R2:=λy x H Q=>∃a o,x=.ref a/\jI H a y o/\Q (.bl (if neg then !o.isSome else o.isSome)) H
def CF(c:X.A.units+1<u2):aZ X (nr .In) (rA false):=by ext pins s σ H x y v u Q I d f h;let(a,o,rfl,g,q):=h;$$f;$(KR c I g d λs' i=>{.bl _,H,i,ρ,q})
def GR(c:X.A.units+1<u2):aZ X (nr .NotIn) (rA true):=by ext pins s σ H x y v u Q I d f h;let(a,o,rfl,g,q):=h;$$f;$(U3 c I g d λs' i=>{.bl _,H,i,ρ,q})
def OP:bN X (.type "dict") (λxs H Q=>∃a kvs,xs=[.ref a]/\Rd H a (.dK kvs)/\∀p,H p=am->Q (.ref p) (upd H p<|.dK kvs)):=by ext pins s σ H xs us Q I r h;let(a,kvs,rfl,c,q):=h;let(u,rfl,d):=r.one;$$d;$(Qv I c λp s' f g=>{.ref p,_,g,ρ,q p f})
def df(c:List (eS×Dat))(k:eS):Option Dat:=(c.find? λp=>bd<|p.1=k).map (·.2)
def lB(c:List (eS×Dat))(k:eS)(d:Dat):List (eS×Dat):=if(df c k).isSome=bi then c.map (λp=>if p.1=k then(p.1,d)else p)else c++[(k,d)]
theorem bO.find:∀{c:List (eS×Dat)}{kvs:List (Key×V)}(k:eS),bO K H c kvs->(∀d,df c k=al d->∃v,fZ kvs (uy k)=al v/\Rep K H d v)/\(df c k=am->fZ kvs (uy k)=am)
 |[],_,k,h=>by rw[show _=[]from h];$({λd z=>by simp[df]at z,λ_=>rfl})
 | (f,d')::c,_,k,j=>by
  let(v,r,e,q,t):=j;rw[e];let(a,b):=bO.find k t;ext(g:f=k)
  .$$g;let i:df ((f,d')::c) f=al d':=by simp[df]
   rw[i,sd ρ];$({λd z=>{v,ρ,by$$$$$$z;$q},λz=>by lk})
  let i:df ((f,d')::c) k=df c k:=by simp[df,g]
  rw[i,ug (by$$$$g)];$(⟨a,b⟩)
theorem bO.has (k:eS)(h:bO K H c kvs):(fZ kvs<|uy k).isSome=(df c k).isSome:=by
 let(a,b):=h.find k;cases e:df c k with
 |none=>rw[b e];rfl
 |some d=>let(v,f,_):=a d e;rw[f];rfl
theorem bO.jy:∀{c:List (eS×Dat)}{kvs:List (Key×V)}(k:eS) {d:Dat}{v:V},bO K H c kvs->Rep K H d v->bO K H (c.map λp=>if p.1=k then(p.1,d)else p) (kvs.map λp=>if p.1=uy k then(p.1,v)else p)
 |[],_,k,_,_,h,_=>by simp?[show _=[]from h];$ρ
 | (i,d')::c,_,k,d,v,j,f=>by
  let(w,r,e,q,t):=j;rw[e,hH,hH];ext(g:i=k)
  .$$g;rw[if_pos ρ,if_pos ρ];$({v,_,ρ,f,bO.jy i t f})
  rw[if_neg g,if_neg (by$$$$g)];$({w,_,ρ,q,bO.jy k t f})
theorem bO.snoc:∀{f:List (eS×Dat)}{kvs:List (Key×V)}(k:eS) {d:Dat}{v:V},bO K H f kvs->Rep K H d v->bO K H (f++[(k,d)]) (kvs++[(uy k,v)])
 |[],_,k,_,v,h,c=>by rw[show _=[]from h];$({v,[],ρ,c,ρ})
 |(_,_)::_,_,k,_,_,g,c=>by let(w,r,e,q,t):=g;$({w,r++_,by rw[e];rfl,q,bO.snoc k t c})
def bO.put (k:eS)(h:bO K H c kvs)(f:Rep K H d v):bO K H (lB c k d) (putK kvs (uy k) v):=by
 delta lB putK;rw[vO,h.has k];split
 .$(h.jy k f)
 $(h.snoc k f)
def cT:Dat->Dat->Option Dat
 |.bK d,.str k=>df d k
 |c,n=>sY c n
def uF(f g:DF):DF:=λZ=>(f Z).bind λp=>(g p.2).bind λq=>(cT p.1 q.1).map λd=>(d,q.2)
def nB(i:Nat)(g:DF):DF:=λZ=>((Z[i]?).bind iE).bind λ_=>(g Z).bind λq=>((q.2[i]?).bind iE).bind λc=>(cT c q.1).map λd=>(d,q.2)
theorem LZ{x:eS}{P:u1}{g:DF}(i:Nat)(R:X.A.units+1<u2)(w:X.N[i]?=al x)(z:bV X.env.scope x)(T:DD X b g)(hs:pY b)(hd:bz x:=by decide)(o:cB x:=by decide):DD X (.Subscript (.Name x P) b pos) (nB i g):=by
 let(tb,B,C):=T;$({_,PE.or (Fe DL (dU w z hd o) B hs)<|yy R (dU w z hd o) B hs,λD E Z F H G d Z' Q e S k=>?_});let(c0,U,e):=oA e;let(n,Z2,I,e):=oB e;let(c,J,e):=oA e;dsimp at e;cases l:cT c n with
 |none=>rw[l]at e;$(nO e)
 |some d' =>
  rw[l]at e;$$$e;let(L,a0,_):=S.peek U;ext(hd:∃M m,c=.bK M/\n=.str m)
  .let(M,m,rfl,rfl):=hd;$(τ {L,a0,C D E Z F H G _ _ _ I S λy q f h r s=>?_});let(V,j,t):=h.peek J;rw[a0]at j;$$$j;let(p,kvs,rfl,W,Y):=t;$$s;let(v,ev,u):=(Y.find m).1 d l;$({p,v,ρ,?_,k v q f h r u});rw[<-ev];$(jI.k (k:=uy m) W)
  let O:sY c n=al d:=by delta cT at l;simp!
  $(ι {L,a0,C D E Z F H G _ _ _ I S λy q f h r s=>?_});let(V,j,t):=h.peek J;rw[a0]at j;$$$j;$(FJ t s O λv u=>k v q f h r u)
def ij(neg:Bool):Dat->Dat->Option Res
 |.str k,.bK c=>al (.D<|.bl (if neg then !(df c k).isSome else(df c k).isSome))
 |.str k,.cN c=>al (.D<|.bl (if neg then !(df c k).isSome else(df c k).isSome))
 |d,e=>yY neg d e
def AV:fS X (λx y H Q=>qj X.K neg x y H Q\/rA neg x y H Q) (ij neg):=by
 ext l m Z n H f x y d d' o Q e S g h k;delta ij at e;$$$$$e
 .$$$e;ext1 c q;$$$g;let(p,kvs,rfl,i,j):=h;$(τ {p,_,ρ,jI.k (k:=uy c)<|S.sub _ _ i,?_});rw[j.has c];$(k _ H f S (aj.refl _) ρ)
 .$$$e;ext1 c q;$$$g;let(p,ob,kvs,rfl,i,j):=h;$(τ {p,_,ρ,ι {kvs,uy c,τ {ob,S.sub _ _ i},ρ,ρ},?_});rw[j.has c];$(k _ H f S (aj.refl _) ρ)
 $(ι<|SG l m Z n H f x y _ _ o Q e S g h k)
def EY(c:X.A.units+65<u2):aZ X (nr .In) (λx y H Q=>qj X.K false x y H Q\/rA false x y H Q):=aZ.or (UN c)<|CF (by lia)
def G5:List Dat->Option Res
 |[.bK c]=>al (.O<|.bK c)
 |_=>am
def Te:CD X (λxs H Q=>∃a kvs,xs=[.ref a]/\Rd H a (.dK kvs)/\∀p,H p=am->Q (.ref p) (upd H p<|.dK kvs)) G5:=by
 ext H0 ps Z σ H d vs ds o Q e S r k;delta G5 at e;$$$$$e
 .$$$$$$e;let(v,vr,rfl,(p,kvs,rfl,f,g),h):=r;$$h;$({p,kvs,ρ,Rd.of<|S.sub _ _ f,λq c=>?_});$(k (.ref q) _ d (S.made c) (aj.refl _) {q,ρ,{kvs,a9,g,S.dv c},(S.bJ c).2,(S.bJ c).1,S.dM c})
 $(nO e)
theorem Gy (a):∀(n:Nat) (b:Array c),(nE n a).foldl (λx y=>x++y) b=b++(nE n a.toList).flatten.toArray
 |0,b=>⋯
 |n+1,b=>by rw[afd,abI,Gy a n,afd,List.flatten_cons,afh];congr 1;apply Array.ext';simp
theorem A6{f g:Type}{R:List f->List g->Prop}(h0:R [] [])(i:∀{a b c d},R a b->R c d->R (a++c) (b++d)){a:List f}{b:List g}(h:R a b):∀n,R (nE n a).flatten (nE n b).flatten
 |0=>h0
 |n+1=>i h<|A6 h0 i h n
theorem SW{f g:Type}{R:f->g->Prop}{a:List f}{b:List g}{c:List f}{d:List g}(p:aaO R a b)(h:aaO R c d):aaO R (a++c) (b++d):=by
 induction p with
 |nil=>$h
 |cons r _ i=>$(.cons r i)
def Jm:R2:=λx y H Q=>∃l xs n,x=.ref l/\y=.int n/\Rd H l (.L xs)/\(0<=n/\n<=2/\xs.length<=1000)/\∀p,H p=am->Q (.ref p) (upd H p<|.L (nE n.toNat xs).flatten)
def EE(x:eS):It:=⟨λi _=>i<x.cps.size,λi H v d=>d=H/\∃c,x.cps[i]?=al c/\v=.str ⟨#[c]⟩,λi _=>x.cps.size<=i⟩
theorem WJ{P:hZ}{w:nL}{K:f'}{F:hF}(x:eS)(t:Tok)(it:dn):Turn P w K F (EE x) [it] it (λi h=>h.IsStrIter it "str_ascii_iterator" x t i) where
 mem:=⋯
 obj:=λi h st b f=>by
  let e:b=it:=by$$$$f
  $$e;let(o,e,c,d):=st;$({o,e,λv z=>by rw[d]at z;lk})
 keep:=λi h h' st k=>by let(o,e,c,d):=st;$({o,k it ⋯ o e,c,d})
 item:=by ext X m hw n B i g s C H E I j st p;let(q,r,G,u,y,A):=j it ⋯;let D:=ib p;$(wpAny_pyNext_ascii_item st D λh' l J=>?_);let L:Inv X g C H {s with heap:=h',toks:=s.toks+1}:=I.turned (λb o f e=>(J.2 b f).trans e) q r u y A;let(o,e,c,d):=id l;$({_,ρ,rl e c d ρ {.str ⟨#[x.cps[i]]⟩,H,L,{_,ρ},{ρ,_,D,ρ},l,λb f=>(j b f).1}})
 done:=by ext X m hw n B i g s C H E I j st p;let(q,r,G,u,y,A):=j it ⋯;$(wpAny_pyNext_ascii_end (I.ok.hd B) st (acy p) λh' M=>{ρ,I.turned (λb o f e=>M b o f e) q r u y A})
 self:=λ_ _ _ _ _ st h=>wpAny_pyIter_striter_ascii st h
def Xt(te:TE):TI:=λc H R=>te c H λv d=>∃x,v=.str x/\x.cps.all (·<128)=bi/\R (EE x) d
theorem Lp{g e:hF}{te:TE}(i:PE X e te):PI X g e (Xt te):=by$(λd s j H R I h=>aI (i d s j H _ I h) λv c g=>?_);let(y,k,f,l,m):=g;let(x,rfl,n,q):=m;let(t,rfl):=l;$(wpAny_pyIter_ascii n {c.heap.objs.size,[c.heap.objs.size],_,_,k,ρ,f.kept λb o e=>eu _ e,WJ x t _,{_,gi _ ρ,ρ,ρ},λb p=>?_,q});rw[show b=c.heap.objs.size by$$$$p];$(f.lj (eT _)<|f.ao.fresh<|eT _)
theorem E6:∀{ys:List eS}{us:List cm},aO (ys.map V.str) us->acB us ys
 |[],_,h=>by$$$h;$(.nil)
 | y::ys,_,h=>by
  cases h with
  |cons r t=>let(tk,rfl):=r;$(.cons _ _<|E6 t)
theorem zS:∀{bs:List Bool}{us:List cm},aO (bs.map V.bl) us->us=bs.map H9
 |[],_,h=>by$$$h;rfl
 | b::bs,_,h=>by
  cases h with
  |cons r t =>
   cases(r);rw[zS t];rfl
theorem Q8(bs:List Bool):((hE bs.length).all λi=>(bs[i]?).getD true)=bs.all id:=by
 induction bs with
 |nil=>rfl
 |cons b r c=>simp?[g8,aeD,aer,agW,aer,<-c];rfl
def Ru(j:X.calm=bi):bN X (.builtin "all") (λxs H Q=>∃(p:dn) (bs:List Bool),xs=[.ref p]/\Rd H p (.L<|bs.map V.bl)/\Q (.bl<|bs.all id) H):=by
 ext pins s σ H xs us Q I r h;let(p,bs,rfl,k,q):=h;let(u,rfl,l):=r.one;$$l;let(z,its,n,m,e):=k.ok I.ao;let d:=zS m;$$d;let f:s.heap.IsList p (bs.map H9).toArray:={_,e,ρ,n,ρ};let o:p<s.heap.objs.size:=fj e;$(call_all_walk (ZG f ⟨s.heap.objs.size,[s.heap.objs.size,p],[s.heap.objs.size],(bs.map H9).toArray.size,_,_,λi=>(bs[i]?).getD true,ρ,
  Walks.list (A:=X.A.in1) (I.ok.hd j) _ p (gD o) (bs.map H9).toArray,{{_,gi _ ρ,ρ,ρ},f.push _},λi v s' Q' E' c g=>?_,λh' tk t=>?_⟩))
 .let c:(bs.map H9)[i]?=al v:=by$$$$c
  rw[dk]at c;let(b,d,c):=oM c;$$$$$$c;simp[d]at g;$(z5 g)
 let w:(hE (bs.map H9).toArray.size).all (λi=>(bs[i]?).getD true)=bs.all id:=by rw[gs,a8];$(Q8 bs)
 rw[w];$({.bl _,H,?_,ρ,q});$(I.kept λb x ex=>t b x (λhm=>by rw[kn.1 hm]at ex;$(uz _<|fj ex))<|eu _ ex)
def alt (f g:c->Option d):c->Option d:=λa=>match f a with
 |some b=>al b
 |none=>g a
theorem Ba{c d:Type}{f g:c->Option d}{a:c}{b:d}(h:alt f g a=al b):f a=al b\/g a=al b:=by delta alt at h;$$$$$h;simp!;$(τ h)
theorem DE.alt{e:hF}{f g:EF}(h:DE X e f)(h':DE X e g):DE X e (alt f g):=by let(t,p,q):=h;let(t',n,o):=h';$({_,PE.or p n,λc i Z j H l d m Q e S k=>(Ba e).elim (λe=>ι<|q c i Z j H l d m Q e S k) λe=>τ<|o c i Z j H l d m Q e S k})
theorem cw.alt{st:aas}{f g:SF}(h:cw X st f)(h':cw X st g):cw X st (alt f g):=by let(t,p,q):=h;let(t',l,m):=h';$({_,PS.or p l,λc d Z i H j o D e S k=>(Ba e).elim (λe=>ι<|q c d Z i H j o D e S k) λe=>τ<|m c d Z i H j o D e S k})
theorem dC.alt{c iter:hF}{f g:IF}(h:dC X c iter f)(h':dC X c iter g):dC X c iter (alt f g):=by let(t,p,q):=h;let(t',n,o):=h';$({_,PI.or p n,λd i Z j H l items m R e S k=>(Ba e).elim (λe=>ι<|q d i Z j H l items m R e S k) λe=>τ<|o d i Z j H l items m R e S k})
def vd:Dat->Dat->Option Res
 |.L xs,.int n=>if 0<=n/\n<=2/\xs.length<=1000 then al (.O<|.L (nE n.toNat xs).flatten)else am
 |_,_=>am
theorem HX{K:f'}{H:Hp}:∀{a:List Dat}{b:List V}{c:List Dat}{d:List V},aB K H a b->aB K H c d->aB K H (a++c) (b++d)
 |[],_,_,_,h,h'=>by cases(h);$h'
 |_::_,_,_,_,f,h'=>by let(v,r,e,p,q):=f;$$e;$({v,_,ρ,p,HX q h'})
def RE:fS X Jm vd:=by
 ext H0 ps Z σ H f x y d d' o Q e S g h k;delta vd at e;$$$$$e
 .$$$$$e
  .ext1 i;$$$$$$e;let(p,vs,rfl,j,rs):=g;$$h;$({p,vs,_,ρ,ρ,Rd.mono S.sub j,by rw[rs.length];$i,λq c=>?_});$(k (.ref q) _ f (S.made c) (aj.refl _) {q,ρ,{_,a9,A6 (R:=aB _ _) ρ HX rs _,S.dv c},(S.bJ c).2,(S.bJ c).1,S.dM c})
  $(nO e)
 $(nO e)
def L6 (c:DD X a f)(d:DD X b g):DE X (.BinOp a .Mult b pos) (cI vd f g):=ny (by
  ext pins s σ H x y v u Q I d f h;let(l,xs,n,rfl,rfl,g,i,q):=h;$$d;let(tk,rfl):=f;let(z,its,k,r,e):=g.ok I.ao;let hl:=r.length;let hsz:its.toArray.size*n.toNat<=sizeLine:=by$(n5 (agB (hl ▸ i.2.2) (show n.toNat<=2 by lia)) ⋯)
  $(wpAny_binaryOp_repeat_ref ⋯ {_,e,ρ} (λs'=>agp s' n tk) noFill_list_mul
   F.fills_int_mul agR repeat_list F.slot_int_index.lookup ?_)
  $(aco agR (agp s n tk) F.entry_int_rmul (F.args_int_rmul_2 _ _) (int___rmul___int_list n tk l its.toArray k) {e,ρ,{_,e,ρ},?_});$(aco F.slot_list_mul {_,e,ρ} F.entry_list_mul (F.args_list_mul_2 _ _)
   (AutoListH.list___mul___list_int_3 l its.toArray k n tk (by simp[ahD];lia) (by rw[wm]at hsz;lia) (by simp?[aaH];$$$$hsz)) {e,?_})
  let j:(List.foldl (λm o=>m++o) #[] (nE (if its.toArray.isEmpty=bi then 0 else n.toNat) its.toArray))=(nE n.toNat its).flatten.toArray:=by
   rw[Gy];split
   .ext1 h;let:its=[]:=by$$$$h
    $$this;simp
   simp
  rw[j];let c:=A6 .nil SW r n.toNat;$({.ref _,_,I.xB c ?_,ρ,q _ I.fresh});rwa[c.length,List.length_flatten,List.map_replicate,List.sum_replicate_nat,Nat.mul_comm]) RE c d
def lK(f:DF):IF:=λZ=>(f Z).bind λp=>match p.1 with
 |.str x=>if x.cps.all (·<128)=bi then al (x.cps.toList.map λc=>.str ⟨#[c]⟩,p.2)else am
 |_=>am
def QC (h:DD X e f):dC X n e (lK f):=by
 let(t,p,q):=h;$({_,Lp p,λo r Z s H u items Z' R g S k=>?_});let(c,Z1,w,g):=oB g;dsimp at g;$$$$$g
 .ext1 x;$$$$$g
  .ext1 z;let(rfl,rfl):=sP g;$(q o r Z s H u _ _ _ w S λv A l B C D=>?_);$$D;$({x,ρ,z,k _ A l B C λi H' sm=>{λd hd=>?_,λhl=>?_}})
   .rw[dk,gf]at hd;let(c,m,hd):=oM hd;$$$$$$hd;$({(zR.1 m).1,λv H2 y=>ι ?_});let(E,c',j,F):=y;rw[m]at j;$$$$$$j;$(⟨E,F⟩)
   show x.cps.size<=i;$$$$hl
  $(nO g)
 $(nO g)
def dS:List Dat->Option (List eS)
 |[]=>al []
 |.str x::r=>(dS r).map (x::·)
 |_::_=>am
theorem kL{K:f'}{H:Hp}:∀{ds:List Dat}{vs:List V}{ys:List eS},dS ds=al ys->aB K H ds vs->vs=ys.map V.str
 |[],_,_,e,r=>by$$$$$$e;$r
 | d::ds,_,_,e,c=>by
  let(v,vr,f,g,rs):=c;cases d with
  |str x=>let(ys',h,e):=oM e;$$$$$$e;simp?[f,kL h rs];$$g;rfl
  |_=>$(nO e)
def sS(sep:eS)(f:DF):DF:=λZ=>(f Z).bind λp=>match p.1 with
 |.L ds=>(dS ds).bind λys=>if sep.length<=16/\(ys.map (·.length)).sum+ys.length<=1048576 then al (.str<|acw sep ys,p.2)else am
 |_=>am
def TV (h:DD X e f)(r:∀{t:TA},PA X [e] t->PE X (.Call (.Attribute (.Constant (.str sep) j l) "join" i) [e] [] pos) (vJ X.K "str" (λx vs H Q=>∃(sep:eS) (p:dn) (ys:List eS),x=.str sep/\vs=[.ref p]/\Rd H p (.L<|ys.map V.str)/\sep.length<=16/\(ys.map (·.length)).sum+ys.length<=1048576/\Q (.str<|acw sep ys) H) (tC<|.str sep) t))(hs:bD X e []:=by rfl):DD X (.Call (.Attribute (.Constant (.str sep) j l) "join" i) [e] [] pos) (sS sep f):=by
 let(t,p,q):=h;$({_,r<|bW p fF hs,λs u Z w H y d Z' Q g S k=>?_});let(c,Z1,z,g):=oB g;dsimp at g;$$$$$g
 .let(ys,A,g):=oA g;$$$$$g
  .ext1 hz;let(rfl,rfl):=sP g;$({ρ,q s u Z w H y _ _ _ z S λv B m n C D=>?_});let(a,vs,rfl,o,rs):=D;rw[kL A rs]at o;$({sep,a,ys,ρ,ρ,Rd.mono n.sub o,hz.1,hz.2,k _ B m n C ρ})
  $(nO g)
 $(nO g)
def jN:List Dat->Option (List Bool)
 |[]=>al []
 |.bl x::r=>(jN r).map (x::·)
 |_::_=>am
theorem x6{K:f'}{H:Hp}:∀{ds:List Dat}{vs:List V}{ys:List Bool},jN ds=al ys->aB K H ds vs->vs=ys.map V.bl
 |[],_,_,e,r=>by$$$$$$e;$r
 | d::ds,_,_,e,c=>by
  let(v,vr,f,g,rs):=c;cases d with
  |bl x=>let(ys',h,e):=oM e;$$$$$$e;simp?[f,x6 h rs];$$g;rfl
  |_=>$(nO e)
def n8:List Dat->Option Res
 |[.L ds]=>(jN ds).map λbs=>.D (.bl<|bs.all id)
 |_=>am
def qG(i:Nat)(d f:DF):SF:=λZ=>(f Z).bind λp=>((p.2[i]?).bind ownOf).bind λ_=>(d p.2).bind λq=>((q.2[i]?).bind ownOf).bind λs=>match s.2,q.1 with
 |.bK c,.str k=>if c.length<c6 then al (.next<|q.2.set i<|kindAt s.1<|.bK<|lB c k p.1)else am
 |_,_=>am
theorem UE{x:eS}{s pt:u1}{l e:hF}{u f:DF}(i:Nat)(M:X.A.units+1<u2)(O:X.N[i]?=al x)(P:bV X.env.scope x)(h:DD X e f)(Q:DD X l u)(hd:bz x:=by decide)(w:cB x:=by decide)
 (hs:z8 e (al<|.Subscript (.Name x s) l pt) pos.line X.env=pure false:=by rfl):cw X (.Assign [.Subscript (.Name x s) l pt] e pos) (qG i u f):=by
 let(t,p,q):=h;let(tk,R,T):=Q;$({_,HN M (dU O P hd w) R p hs,λz B Z m H U o D e S k=>?_});let(d,Z1,V,e):=oB e;let(b0,c0,W,e):=oB e;let(n,Z2,Y,e):=oB e;dsimp at e;cases g:(Z2[i]?).bind ownOf with
 |none=>rw[g]at e;$(nO e)
 |some j =>
  let(io,c):=j;simp?[g]at e;dsimp[mv]at e;$$$$$e
  .ext1 ks C;$$$$$e
   .ext1 hz;$$$$$$e;$(q z B Z m H U d Z1 _ V S λv H1 E F s1 r1=>?_);let(a,r,_):=F.at<|jL W;$({.ref a,r,T z B Z1 m H1 E _ Z2 _ Y F λy H2 G I j r2=>?_});$$r2;let(b,J,ob):=I.at<|jL g;rw[r]at J;$$$J;let(kvs,h1,L,h3):=ob;$({a,_,ρ,mD.k (k:=uy C) h1 (by rw[bO.length L];$hz),?_});$(k m _ G (I.write (jL g) r {_,a9,bO.put C L<|Rep.mono j r1,h3})<|s1.trans j)
   $(nO e)
  $(nO e)
structure ba (P:hZ) (w:nL) (K:f') (mg:eS->Option cm) (base:nk) (x:eS) (k:Nat) (sp:Sp):Prop where
 is:∃(f:dn) (fd:hO) (pn:List eS),aV P w K mg base bc k f fd pn sp/\mg x=al (.ref f)/\acF K (.ref f)=bi/\Binds K fd pn []
structure wO (P:hZ) (w:nL) (K:f') (mg:eS->Option cm) (base:nk) (x:eS) (k:Nat) (sp:Sp):Prop where
 is:∃(f:dn) (fd:hO) (pn:List eS),aV P w K mg base (fU P w) k f fd pn sp/\mg x=al (.ref f)/\acF K (.ref f)=bi/\Binds K fd pn []
structure fJ (K:f') (mg:eS->Option cm) (x:eS) (d:Dat):Prop where
 is:∃v u,mg x=al u/\RelV v u/\∀H,Rep K H d v
def ba.has (h:ba X.prog X.w X.K X.mg X.base x k sp)(c:Gl X x)(d:cF k X.A):By X x sp:=by let(f,g,pn,F,m,kp,b):=h.is;$({c,bc,k,f,g,pn,F,d,m,kp,b,(λ_ _ _ _ _ _ _ h=>h.elim)})
def ND (h:fJ X.K X.mg x d)(c:Gl X x)(hd:bz x):DD X (.Name x pos) (fC d):=Us ⟨c,h.is⟩ hd
def Vz (h:ba X.prog X.w X.K X.mg X.base x k (aF X.K fn))(f:Gl X x)(g:cF k X.A)(c:bz x)(i:bD X e es)(d:(T' pos<|km es X.env).any (·.1)=bn)(j:DA X (e::es) fa):DE X (.Call (.Name x p) (e::es) [] pos) (bT fn fa):=LM (h.has f g) j c i d
def Pq (h:ba X.prog X.w X.K X.mg X.base x k (fR X.K j fn))(f:Gl X x)(g:cF k X.A)(c:bz x)(l:bD X e es)(d:(T' pos<|km es X.env).any (·.1)=bn)(m:xF X (e::es) j i fa):DE X (.Call (.Name x p) (e::es) [] pos) (sF fn i fa):=X9 (h.has f g) m c l d
def Qu (f:X.N.findIdx? (·==x)=al i)(g:bV X.env.scope x)(h:Gl X "len")(hm:X.mg "len"=am)(hd:bz x)(c:cB x):DD X (.Call (.Name "len" p) [.Name x d] [] pos) (rJ i):=XY i (dI f) g h hm hd c
def T7 (c:Gl X "int")(hm:X.mg "int"=am)(d:bD X e [])(f:DA X [e] fa):DE X (.Call (.Name "int" p) [e] [] pos) (bT pR fa):=xq Ov Ly c hm (by decide +kernel) f ⋯ ρ d ρ
def TJ (c:X.calm=bi)(d:Gl X "all")(hm:X.mg "all"=am)(f:bD X e [])(g:DA X [e] fa):DE X (.Call (.Name "all" p) [e] [] pos) (bT n8 fa):=iu (Ru c) (by
  ext H0 ps Z σ H d vs ds o Q e S r k;delta n8 at e;$$$$$e
  .let(bs,f,e):=oM e;$$$$$$e;let(v,vr,rfl,(a,ws,rfl,c,rs),g):=r;$$g;rw[x6 f rs]at c;$({a,bs,ρ,Rd.mono S.sub c,k _ H d S (aj.refl _) ρ})
  $(nO e)) d hm (by decide +kernel) g ⋯ ⋯ f ρ
def Qi (d:X.calm=bi)(f:Gl X "min")(hm:X.mg "min"=am)(g:bD X a [b])(c:(T' pos<|km [b] X.env).any (·.1)=bn)(h:DA X [a,b] fa):DE X (.Call (.Name "min" p) [a,b] [] pos) (bT AW fa):=iu (Sa d) LL f hm (by decide +kernel) h ⋯ ρ g c
def Se (d:X.calm=bi)(f:Gl X "max")(hm:X.mg "max"=am)(g:bD X a [b])(c:(T' pos<|km [b] X.env).any (·.1)=bn)(h:DA X [a,b] fa):DE X (.Call (.Name "max" p) [a,b] [] pos) (bT zZ fa):=iu (V9 d) Xl f hm (by decide +kernel) h ⋯ ρ g c
theorem Pt (c:X.A.units+1<u2)(hs:pY b)(d:DD X a f)(h:DD X b g):DD X (.Subscript a b pos) (uF f g):=(λP R T hs=>by
  let(ta,E,F):=R;let(tb,G,I):=T;$({_,PE.or (Fe DL E G hs)<|yy P E G hs,λm o Z q H J d Z' Q e S k=>?_});let(c,Z1,L,e):=oB e;let(n,Z2,M,e):=oB e;dsimp at e;cases r:cT c n with
  |none=>rw[r]at e;$(nO e)
  |some d' =>
   rw[r]at e;$$$e;ext(hd:∃N s,c=.bK N/\n=.str s)
   .let(N,s,rfl,rfl):=hd;$(τ (F m o Z q H J _ Z1 _ L S λx t h u w z=>?_));$(I m o Z1 q t h _ _ _ M u λy B i j l C=>?_);let(p,kvs,rfl,U,V):=Rep.mono l z;$$C;let(v,W,D):=(V.find s).1 d r;$({p,v,ρ,?_,k v B i j (w.trans l) D});rw[<-W];$(jI.k (k:=uy s)<|j.sub _ _ U)
   let O:sY c n=al d:=by delta cT at r;simp!
   $(ι (F m o Z q H J _ Z1 _ L S λx t h u w z=>?_));$(I m o Z1 q t h _ _ _ M u λy B i j l C=>?_)
   $(FJ ((Rep.mono l z).top j.sub) C O λv D=>k v B i j (w.trans l) D)) c d h hs
def NF (f:X.N.findIdx? (·==x)=al i)(h:bV X.env.scope x)(j:X.A.units+1<u2)(hd:bz x)(c:cB x)(hs:pY b)(k:DD X b g):DD X (.Subscript (.Name x d) b pos) (nB i g):=LZ i j (dI f) h k hs hd c
def R7 (c:X.A.units+64<u2)(d:DD X a f)(h:DD X b g):DE X (.Compare a [.Eq] [b] pos) (cI (dN false) f g):=tV (Dt c) xu d h<|kN _
def Rx (c:X.A.units+64<u2)(d:DD X a f)(h:DD X b g):DE X (.Compare a [.NotEq] [b] pos) (cI (dN true) f g):=tV (FU c) xu d h<|kN _
def QH (c:DD X a f)(d:DD X b g):DE X (.Compare a [.Gt] [b] pos) (cI (fP (λ_ _=>true) λi j=>.bl<|bd<|j<i) f g):=tV FR (tS λ_ _ _ _=>rfl) c d<|kN _
def Q1 (c:X.A.units+65<u2)(hm:xn .In b=bn)(d:DD X a f)(h:DD X b g):DE X (.Compare a [.In] [b] pos) (cI (ij false) f g):=tV (EY c) AV d h hm
def MU (c:X.A.units+65<u2)(hm:xn .In b=bn)(d:DD X a f)(h:DD X b g):DT X (.Compare a [.In] [b] pos) (fT<|cI (ij false) f g):=oG (EY c) AV d h hm
def Ud (c:X.A.units+65<u2)(hm:xn .NotIn b=bn)(d:DD X a f)(h:DD X b g):DT X (.Compare a [.NotIn] [b] pos) (fT<|cI (ij true) f g):=oG ((λc=>aZ.or (LV c)<|GR (by lia)) c) AV d h hm
def Yi (h:DD X a f):DD X (.UnaryOp .USub a pos) (λZ=>(f Z).bind λp=>match p.1 with|.int i=>al (.int<|-i,p.2)|_=>am):=by
 let(t,p,q):=h;$({_,P4 (Qq λ_ _ _ _ _ q=>neg_int q) p,λl m Z n H o d Z' Q g S k=>?_});let(c,Z1,r,g):=oB g;dsimp at g;$$$$$g
 .let(rfl,rfl):=sP g;$(q l m Z n H o _ _ _ r S λv s j u w x=>?_);$$x;$({_,ρ,k _ s j u w ρ})
 $(nO g)
def ig(scope:aah):List Str:=(scope.names.filter λp=>p.2 != .globalImplicit).map (·.1)
def rE(N:List eS)(scope:aah):List (Option Nat):=(ig scope).map λx=>if scope.names.lookup x==some .free then N.findIdx? (·==x)else am
def Ej (hnd:N.Nodup)(hXN:X.N=N)(i:X.calm=bi)(B:jW X.env.scope scope)(h:iG X.N (ig scope) scope (rE N scope)=bi)(hs:∀x,um iter X.env x=pure x)(j:dC X f iter fi)(k:∀(cl:List (eS×dn)) (C:dn) (c:cA) (H:Hp) (d:List dn),DG (cy X (ig scope) scope cl C c H d) f g)(l:∀(cl:List (eS×dn)) (C:dn) (c:cA) (H:Hp) (d:List dn),mf (cy X (ig scope) scope cl C c H d) ifs fc)(m:∀(cl:List (eS×dn)) (C:dn) (c:cA) (H:Hp) (d:List dn),DD (cy X (ig scope) scope cl C c H d) elt fe):DE X (.ListComp elt [{f,iter,ifs,0}] scope pos) (fD (rE N scope) am fi g fc fe):=OV i B h j k l m hs
def Nr (k:N.Nodup)(l:X.N=N)(m:X.N.findIdx? (·==y)=al i)(o:Loc X.env.scope y)(p:X.fn y=bi\/X.env.scope.names.lookup y=some .local)(n:z8 (.ListComp elt [{h,iter,ifs,0}] scope pos) (al<|.Name y py) d.line X.env=pure true)(q:X.calm=bi)(B:jW X.env.scope scope)(j:iG X.N (ig scope) scope (rE N scope)=bi)(hs:∀x,um iter X.env x=pure x)(r:dC X h iter fi)(s:∀(cl:List (eS×dn)) (C:dn) (c:cA) (H:Hp) (f:List dn),DG (cy X (ig scope) scope cl C c H f) h g)(t:∀(cl:List (eS×dn)) (C:dn) (c:cA) (H:Hp) (f:List dn),mf (cy X (ig scope) scope cl C c H f) ifs fc)(u:∀(cl:List (eS×dn)) (C:dn) (c:cA) (H:Hp) (f:List dn),DD (cy X (ig scope) scope cl C c H f) elt fe):cw X (.Assign [.Name y py] (.ListComp elt [{h,iter,ifs,0}] scope pos) d) (jx i<|fD (rE N scope) am fi g fc fe) :=
 Uw i (l ▸ k) (dI m) o p q B j r s t u n hs
def OT (c:X.N.Nodup)(d:X.N.findIdx? (·==x)=al i)(f:Loc X.env.scope x)(g:X.fn x=bi\/X.env.scope.names.lookup x=some .local):DG X (.Name x py) (BD i):=(λi f g h j=>by
  $({_,N2 f g h j,λH0 ps Z σ H Hi d Z' v Q e S r k=>?_})
  $(k _<|S.put (r:=.D d) r e)) i c (dI d) f g
def M9 (m:X.N.findIdx? (·==x)=al i)(n:bV X.env.scope x)(hd:bz x)(k:cB x)(g:aae (.Name x d) "append" X.env (eval (.Name x d) X.env)=eval (.Name x d) X.env)(j:qF X pos e)(h:(c.endLine==pos.line)=bi)(hs:bD X e [])(l:z8 (.Call (.Attribute (.Name x d) "append" c) [e] [] pos) am f.line X.env=pure false)(o:DA X [e] fa) :
  cw X (.Expr (.Call (.Attribute (.Name x d) "append" c) [e] [] pos) f) (m9<|kR i uf fa):=xY (Wl i (dI m) n o hd k g j h hs) l
def UM (g:aae (.Constant (.str sep) j d) "join" X.env (eval (.Constant (.str sep) j d) X.env)=eval (.Constant (.str sep) j d) X.env)(k:qF X pos e)(i:(c.endLine==pos.line)=bi)(hs:bD X e [])(h:DD X e f):DD X (.Call (.Attribute (.Constant (.str sep) j d) "join" c) [e] [] pos) (sS sep f) :=
 TV h (λl=>sN PySem.F.plainAttrs_str PySem.F.slot_str_join PySem.F.type_str_join (by ext pins s σ H x vs v us Q I c d h;let(sep,p,ys,rfl,rfl,f,g,i,q):=h;let(t,rfl):=c;let(u,rfl,j):=d.one;$$j;let(z,its,n,r,e):=f.ok I.ao;$(join_listW {_,e,ρ,n,ρ} (E6 r) g i λt' k=>{.str _,H,I.tok k,⟨t',ρ⟩,q})) lQ l g k i hs ρ) hs
def W9 (f:X.calm=bi)(g:(u3 es X.env).length=es.length)(d:(u3 es X.env).findIdx? (·.1)=am)(h:nV X es c):DG X (.Tuple es k pos) (A0 es.length c):=Wn f h g d
def mq (h:cF k A):A.units+1<cLine:=by let:=h.un;lia
def qW (h:cF k A):A.units+64<cLine:=by let:=h.un;lia
def u7 (h:cF k A):A.units+65<cLine:=by let:=h.un;lia
def IT(sc scope:aah):Bool:=scope.kind==.function&&scope.names.all (λy=>y.2 != .cell&&(y.2 != .local||scope.names.lookup y.1==some .local)&&(y.2 != .free||sc.names.lookup y.1==some .cell||sc.names.lookup y.1==some .free))
def rX (h:IT d scope=bi):jW d scope:=by
 delta IT at h;simp?[e8]at h;let g:∀y∈scope.names,y.2≠.cell/\(y.2=.local->scope.names.lookup y.1=some .local)/\(y.2=.free->d.names.lookup y.1=some .cell\/d.names.lookup y.1=some .free):=λy c=>by
  let q:=kz.1 h.2 y c;simp at q;$({q.1.1,λz=>?_,λz=>?_})
  .let w||w:=q.1.2;simp!;$w
  let(w||w)||w:=q.2;simp!
  .$(ι w)
  $(τ w)
 $({by$$$$(h.1),λy c=>(g y c).1,λy c=>(g y c).2.1,λy c=>(g y c).2.2})
def Sl (f:X.N.findIdx? (·==x)=al i)(j:bV X.env.scope x)(hs:km (.Name x c::es) X.env=(false,eval (.Name x c) X.env)::km es X.env)(hd:bz x)(d:cB x)(h:DA X es g):xF X (.Name x c::es) 0 i g:=Oh i (dI f) j h hs hd d
def KP (hs:bD X e es)(c:DD X e f)(d:DA X es g):DA X (e::es) (gz f g):=WQ c d hs
def Mb (hs:(u3 (e::es) X.env).map (·.2)=abL e X.env::(u3 es X.env).map (·.2))(d:DG X e g)(f:nV X es c):nV X (e::es) (ER g c):=Yf d f hs
def OW (k:X.N.findIdx? (·==x)=al i)(l:bV X.env.scope x)(m:X.A.units+1<u2)(hd:bz x)(j:cB x)(hs:z8 e (al<|.Subscript (.Name x d) c pt) pos.line X.env=pure false)(h:DD X e f)(n:DD X c g):cw X (.Assign [.Subscript (.Name x d) c pt] e pos) (qG i g f):=UE i m (dI k) l h n hd j hs
def V7 (d:adk (hM X.prog X.w) X.A X.env X.xe)(f:X.calm=bi)(hs:∀x,um iter X.env x=pure x)(h:dC X c iter fi)(i:DG X c g)(j:gS X body fb):cw X (.For c iter body [] pos) (qV fi g fb):=Um d f h i j hs
def XJ (d:Gl X "range")(hm:X.mg "range"=am)(hs:km [a] X.env=[(false,eval a X.env)])(h:DA X [a] f):dC X c (.Call (.Name "range" p) [a] [] pos) (uD f):=XZ d hm h hs
def QW{e:hF}{f:DF}{l h:OF}{lo c:Option hF}{d:u1}(g:DD X e f)(hl:DO X lo l)(hh:DO X c h):DE X (.Subscript e (.Slice lo c am d) pos) (jH f l h):=OJ g hl hh
def Tr (c:∀whole,aeE a X.env whole=(do let v <-whole;adX a.pos;aaB [v] (agq v)))(h:DD X a f):DT X a (n9 f):=WO h c
def iP:Dat->Dat->Option Res
 |.int i,.int j=>al (.D<|.bl<|bd<|i<=j)
 |.str i,.str j=>al (.D<|.bl<|!bd (j.cps.toList<i.cps.toList))
 |_,_=>am
def Dk:R2:=λx y H Q=>iZ (λi j=>.bl<|bd<|i<=j) x y H Q\/(λx y H Q=>∃i j,x=.str i/\y=.str j/\Q (.bl<|!bd (j.cps.toList<i.cps.toList)) H) x y H Q
theorem tW:aZ X (nr .LtE) Dk:=aZ.or (u6 λ_ _ _ _ _ _ _ q=>le_int q) (by ext pins s σ H x y v u Q I c d h;let(i,j,rfl,rfl,q):=h;let(t,rfl):=c;let(t',rfl):=d;$(PySem.P.le_str {.bl _,H,I,ρ,q}))
def tD:fS X Dk iP:=by
 ext H0 ps Z σ H c x y d d' o Q e S f g k;delta iP at e;$$$$$e
 .$$$e;$$f;$$g;$(ι {_,_,ρ,ρ,k _ H c S (aj.refl _) ρ})
 .$$$$$$e;$$f;$$g;$(τ {_,_,ρ,ρ,k _ H c S (aj.refl _) ρ})
 $(nO e)
abbrev Ki:Dat->Dat->Option Res:=fP (λ_ _=>true) λi j=>.bl<|bd<|i<j
def kd(o1 o2:Dat->Dat->Option Res)(f g h:DF):DF:=λZ=>(f Z).bind λx=>(g x.2).bind λy=>match o1 x.1 y.1 with
 |some (.D<|.bl true)=>(h y.2).bind λz=>(match o2 y.1 z.1 with|some (.D<|.bl b)=>al (.bl b,z.2)|_=>am)
 |some (.D<|.bl false)=>al (.bl false,y.2)
 |_=>am
def GS (G:aZ X (nr t) E)(r:fS X E o1)(I:aZ X (nr u) F)(J:fS X F o2)(Y:DD X a f)(hb:DD X b g)(hc:DD X c h)(hm:acP [t,u] [b,c]=bn):DD X (.Compare a [t,u] [b,c] pos) (kd o1 o2 f g h):=by
 let(ta,pa,qa):=Y;let(tb,pb,qb):=hb;let(tc,pc,qc):=hc;$({_,TF G I pa pb pc hm,λj l Z m H Hi d Z' Q i S k=>?_});let(x,Z1,e1,i):=oB i;let(y,Z2,e2,i):=oB i;$(qa j l Z m H Hi x Z1 _ e1 S λL H1 M S1 N O=>?_);$(qb j l Z1 m H1 M y Z2 _ e2 S1 λw P s R p A=>?_);$$$$$i
 .ext1 B;$(r j l Z2 m P s L w x y _ _ B R (Rep.mono p O) A λv C n D q o=>?_);$$o;$({true,ρ,?_});let(z,Z3,e3,i):=oB i;$(qc j l Z2 m C n z Z3 _ e3 D λzv H4 T S4 U rz=>?_);$$$$$i
  .ext1 b V;let(rfl,rfl):=sP i;$(J j l _ m H4 T w zv y z _ Q V S4 (Rep.mono (q.trans U) A) rz λv H5 W S5 s5 o=>k v H5 W S5 ((((N.trans p).trans q).trans U).trans s5) o)
  $(nO i)
 .ext1 B;let(rfl,rfl):=sP i;$(r j l _ m P s L w x y _ _ B R (Rep.mono p O) A λv C n D q o=>?_);$$o;$({false,ρ,?_});rw[if_neg ⋯];$(k _ C n D ((N.trans p).trans q) ρ)
 $(nO i)
def Ks (hm:acP [.LtE,.LtE] [b,c]=bn)(d:DD X a f)(i:DD X b g)(j:DD X c h):DD X (.Compare a [.LtE,.LtE] [b,c] pos) (kd iP iP f g h):=GS tW tD tW tD d i j hm
def KW (c:Gl X "isinstance")(d:X.mg "isinstance"=am)(g:Gl X "int")(h:X.mg "int"=am)(hs:bD X e [.Name "int" q])(i:DD X e f):DD X (.Call (.Name "isinstance" p) [e,.Name "int" q] [] pos) (kO "int" f):=rT i c d g h (by decide +kernel) ⋯ ⋯ hs
def R3 (c:Gl X "isinstance")(d:X.mg "isinstance"=am)(g:Gl X "bool")(h:X.mg "bool"=am)(hs:bD X e [.Name "bool" q])(i:DD X e f):DD X (.Call (.Name "isinstance" p) [e,.Name "bool" q] [] pos) (kO "bool" f):=rT i c d g h (by decide +kernel) ⋯ ρ hs
def Mu (c:Gl X "isinstance")(d:X.mg "isinstance"=am)(g:Gl X "str")(h:X.mg "str"=am)(hs:bD X e [.Name "str" q])(i:DD X e f):DD X (.Call (.Name "isinstance" p) [e,.Name "str" q] [] pos) (kO "str" f):=rT i c d g h (by decide +kernel) ⋯ ρ hs
def UL (c:Gl X "isinstance")(d:X.mg "isinstance"=am)(g:Gl X "tuple")(h:X.mg "tuple"=am)(hs:bD X e [.Name "tuple" q])(i:DD X e f):DD X (.Call (.Name "isinstance" p) [e,.Name "tuple" q] [] pos) (kO "tuple" f):=rT i c d g h (by decide +kernel) ⋯ ρ hs
def X3 (c:Gl X "isinstance")(d:X.mg "isinstance"=am)(g:Gl X "list")(h:X.mg "list"=am)(hs:bD X e [.Name "list" q])(i:DD X e f):DD X (.Call (.Name "isinstance" p) [e,.Name "list" q] [] pos) (kO "list" f):=rT i c d g h (by decide +kernel) ⋯ ρ hs
def su(o1 o2:Dat->Dat->Option Res)(f g h:DF):BF:=λZ=>(kd o1 o2 f g h Z).bind λp=>match p.1 with
 |.bl b=>al (b,p.2)
 |_=>am
theorem PN (hm:acP [.LtE,.LtE] [b,c]=bn)(d:DD X a f)(i:DD X b g)(j:DD X c h):DT X (.Compare a [.LtE,.LtE] [b,c] pos) (su iP iP f g h):=(λI s J L ha hb hc hm=>by
  let(ta,pa,qa):=ha;let(tb,pb,qb):=hb;let(tc,pc,qc):=hc;$({_,OI I J pa pb pc hm,λl m Z j H Hi d Z' Q n S k=>?_});let(dd,Z0,i,n):=oB n;dsimp at n;cases dd with
  |bl b0 =>
   let(rfl,rfl):=sP n;let(x,Z1,e1,i):=oB i;let(y,Z2,e2,i):=oB i;dsimp at i;$(qa l m Z j H Hi x Z1 _ e1 S λM H1 N S1 O P=>?_);$(qb l m Z1 j H1 N y Z2 _ e2 S1 λC R t T q D=>?_);$$$$$i
   .ext1 E;$(s l m Z2 j R t M C x y _ _ E T (Rep.mono q P) D λv F o G r p=>?_);$$p;$({true,ρ,?_});let(z,Z3,e3,i):=oB i;dsimp at i;$(qc l m Z2 j F o z Z3 _ e3 G λzv H4 U S4 V rz=>?_);$$$$$i
    .ext1 b W;$$$i;$(L l m _ j H4 U C zv y z _ _ W S4 (Rep.mono (r.trans V) D) rz λv H5 Y S5 s5 p=>{_,p,k H5 Y S5<|(((O.trans q).trans r).trans V).trans s5})
    $(nO i)
   .ext1 E;$$$i;$(s l m _ j R t M C x y _ _ E T (Rep.mono q P) D λv F o G r p=>?_);$$p;$({false,ρ,?_});rw[if_neg ⋯];$({_,ρ,k F o G<|(O.trans q).trans r})
   $(nO i)
  |_=>$(nO n)) tW tD tW tD d i j hm
end
def GY:List eS->Bool
 |[]=>true
 |x::r=>!(r.any (·==x))&&GY r
theorem zU:∀{l:List eS},GY l=bi->l.Nodup
 |[],_=>aaL
 |x::r,h=>by let h:=l5.1 h;$(qo.2 {λm=>?_,zU h.2});let:r.any (·==x)=bi:=zc.2 {x,m,⋯};simp!
section
open PySem.W
inductive Comes {α:Type}(lt:Nat->Nat->Bool) (ok:Nat->Nat->Prop):KasT α->α->Prop
 |ret (a:α):Comes lt ok (.ret a) a
 |ask {i j:Nat}{k:Bool->KasT α}{a:α}(h:ok i j) (r:Comes lt ok (k<|lt i j) a):Comes lt ok (.ask i j k) a
theorem Comes.bind (c:Comes lt ok t a)(q:Comes lt ok (f a) b):Comes lt ok (t.bind f) b:=by
 induction c with
 |ret a=>$q
 |ask h _ g=>$(.ask h<|g q)
section
variable{lt:Nat->Nat->Bool}{n:Nat}
structure Ord (lt:Nat->Nat->Bool) (n:Nat):Prop where
 trans:∀i j k,lt i j=bi->lt j k=bi->lt i k=bi
 total:∀i j,i<n->j<n->i≠j->lt i j=bi\/lt j i=bi
 gB:∀i,lt i i=bn
abbrev okN(n:Nat):Nat->Nat->Prop:=λi j=>i<n/\j<n/\i≠j
structure dB (p:Array Nat) (n:Nat):Prop where
 size:p.size=n
 lt:∀i,i<n->p.getD i 0<n
 inj:∀i j,i<n->j<n->p.getD i 0=p.getD j 0->i=j
 pm:p.toList.Perm (hE n)
def xR{p q:Array Nat}{i j:Nat}(h:p[i]?=q[j]?):p.getD i 0=q.getD j 0:=by simp[h]
theorem dB.ok{p:Array Nat}(P:dB p n){i j:Nat}(a:i<n)(b:j<n)(h:i≠j):okN n (p.getD i 0) (p.getD j 0):={P.lt i a,P.lt j b,λz=>h<|P.inj i j a b z}
def fM(lt:Nat->Nat->Bool)(p:Array Nat)(m:Nat):Prop:=∀i j,i<j->j<m->lt (p.getD i 0) (p.getD j 0)=bi
def Down(lt:Nat->Nat->Bool)(p:Array Nat)(m:Nat):Prop:=∀i j,i<j->j<m->lt (p.getD j 0) (p.getD i 0)=bi
def fM.succ (O:Ord lt n)(P:dB p n)(h:fM lt p m)(hm:m<n)(h1:1<=m)(hl:lt (p.getD m 0) (p.getD (m-1) 0)=bn):fM lt p (m+1):=by
 ext i j b hj;ext(z:j<m)
 .exact h i j b z
 let z:j=m:=by lia
 subst z;let a:lt (p.getD (j-1) 0) (p.getD j 0)=bi:=by
  rcases O.total _ _ (P.lt j hm) (P.lt (j-1) ∅) (λz=>by let:=P.inj j (j-1) hm ∅ z;$_)with q|q
  .rw[hl]at q;lk
  exact q
 ext(c:i=j-1)
 .rwa[c]
 exact O.trans _ _ _ (h i (j-1) ∅ ∅) a
def Down.succ (O:Ord lt n)(h:Down lt p m)(h1:1<=m)(hl:lt (p.getD m 0) (p.getD (m-1) 0)=bi):Down lt p (m+1):=by
 ext i j a hj;ext(z:j<m)
 .exact h i j a z
 let z:j=m:=by lia
 subst z;ext(b:i=j-1)
 .rwa[b]
 exact O.trans _ _ _ hl<|h i (j-1) ∅ ∅
theorem yT (O:Ord lt n)(P:dB p n):∀(f m:Nat),1<=m->m+f<=n->fM lt p m->∃r,Comes lt (okN n) (kas_asc p f m) r/\m<=r/\r<=m+f/\fM lt p r/\(r<m+f->lt (p.getD r 0) (p.getD (r-1) 0)=bi)
 |0,m,i,j,g=>{m,.ret m,eT _,eT _,g,λh=>by lia}
 | f+1,m,i,j,g=>by
  let ao:okN n (p.getD m 0) (p.getD (m-1) 0):=P.ok ⋯ ⋯ ∅;cases hl:lt (p.getD m 0) (p.getD (m-1) 0)with
  |true=>$({m,.ask ao ?_,eT _,⋯,g,λ_=>hl});rw[hl];$(.ret m)
  |false=>let(r,a,b,c,d,e):=yT O P f (m+1) ⋯ ⋯ (g.succ O P ⋯ i hl);$({r,.ask ao ?_,⋯,⋯,d,λh=>e ⋯});rwa[hl]
theorem FW (O:Ord lt n)(P:dB p n):∀(f m:Nat),1<=m->m+f<=n->Down lt p m->∃r,Comes lt (okN n) (kas_desc f p m 0) (p,r,0)/\m<=r/\r<=m+f/\Down lt p r
 |0,m,g,h,e=>{m,.ret _,eT _,eT _,e}
 | f+1,m,g,h,e=>by
  let ao:okN n (p.getD m 0) (p.getD (m-1) 0):=P.ok ⋯ ⋯ ∅;cases hl:lt (p.getD m 0) (p.getD (m-1) 0)with
  |true=>let(r,a,b,c,d):=FW O P f (m+1) ⋯ ⋯ (e.succ O g hl);$({r,.ask ao ?_,⋯,⋯,d});rwa[hl]
  |false =>
   $({m,.ask ao ?_,eT _,⋯,e});rw[hl];let i:lt (p.getD (m-1) 0) (p.getD m 0)=bi:=by
    let q||q:=O.total _ _ ao.1 ao.2.1 ao.2.2
    .rw[hl]at q;lk
    $q
   $(.ask {ao.2.1,ao.1,λz=>ao.2.2 z.symm} ?_);rw[i];$(.ret _)
theorem dB.perm{p q:Array Nat}(P:dB p n)(d:q.Perm p)(h:q.size=p.size)(f:Nat->Nat)(a:∀i,i<n->f i<n/\q.getD i 0=p.getD (f i) 0)(g:∀i j,i<n->j<n->f i=f j->i=j):dB q n:=by
 $({h.trans P.size,λi hl=>?_,λi j b c e=>?_,?_})
 .rw[(a i hl).2];$(P.lt _ (a i hl).1)
 .rw[(a i b).2,(a j c).2]at e;$(g i j b c<|P.inj _ _ (a i b).1 (a j c).1 e)
 $((ad'.1 d).trans P.pm)
def Bc (hm:m<=p.size)(k):(ad2 p 0 m).getD k 0=if k<m then p.getD (m-1-k) 0 else p.getD k 0:=by let h:=getElem?_mirror_all (i:=0) hm k;$$(ad2);split;simp!;ext1 a;rw[if_neg (λz=>a z.2)]at h;$(xR h)
def U4 (P:dB p n)(hm:m<=n):dB (ad2 p 0 m) n:=by
 $(P.perm (by$$(ad2);$(mirror_perm _ _ _ _)) (by simp[ad2,mirror_size]) (λk=>if k<m then m-1-k else k) (λi a=>{by(try dsimp);split<;>$_,?_}) λi j a hj e=>?_)
 .rw[Bc (by rw[P.size];$hm)]
  (try dsimp)
  split<;>rfl
 grind
def RL (P:dB p n)(hm:m<=n)(h:Down lt p m):fM lt (ad2 p 0 m) m:=by ext i j hij a;rw[Bc (by rw[P.size];$hm),Bc (by rw[P.size];$hm),if_pos ⋯,if_pos a];$(h _ _ ⋯ ⋯)
theorem AB (O:Ord lt n)(P:dB p n)(j:k<n)(e:fM lt p k):∀(f l r:Nat),l<=r->r<=k->r-l<=f->(∀i,i<l->lt (p.getD i 0) (p.getD k 0)=bi)->(∀i,r<=i->i<k->lt (p.getD k 0) (p.getD i 0)=bi) ->
  ∃m,Comes lt (okN n) (kas_place p k f l r) m/\m<=k/\(∀i,i<m->lt (p.getD i 0) (p.getD k 0)=bi)/\(∀i,m<=i->i<k->lt (p.getD k 0) (p.getD i 0)=bi)
 |0,l,r,u,s,v,a,b=>{l,.ret l,by lia,a,λi o=>b i (by lia)}
 | f+1,l,r,u,s,v,a,b=>by
  dsimp[kas_place];ext(g:l ≥ r)
  .rw[if_pos g];$({l,.ret l,by lia,a,λi o=>b i (by lia)})
  rw[if_neg g];let hm:(l+r)/2<r/\l<=(l+r)/2:=⋯;let ao:okN n (p.getD k 0) (p.getD ((l+r)/2) 0):=P.ok j ⋯ ∅;cases hl:lt (p.getD k 0) (p.getD ((l+r)/2) 0)with
  |true =>
   let(m,c,d):=AB O P j e f l ((l+r)/2) hm.2 (by lia) ∅ a (λi o t=>by
    ext(z:i=(l+r)/2)
    .rwa[z]
    exact O.trans _ _ _ hl<|e _ _ ⋯ t)
   refine{m,.ask ao ?_,d};rwa[hl]
  |false =>
   let h:lt (p.getD ((l+r)/2) 0) (p.getD k 0)=bi:=by
    let q||q:=O.total _ _ ao.1 ao.2.1 ao.2.2
    .rw[hl]at q;lk
    exact q
   let(m,c,d):=AB O P j e f ((l+r)/2+1) r (by lia) s ∅ (λi o=>by
    ext(z:i=(l+r)/2)
    .rwa[z]
    exact O.trans _ _ _ (e i ((l+r)/2) ⋯ (by lia)) h) b
   refine{m,.ask ao ?_,d};rwa[hl]
def WV (b:k<p.size)(hl:l<=k)(i):(bubble p k<|k-l).getD i 0=if i=l then p.getD k 0 else if l<i/\i<=k then p.getD (i-1) 0 else p.getD i 0:=by
 let h:=getElem?_bubble b (k-l) ⋯ i;let e:k-(k-l)=l:=⋯;rw[e]at h;ext(z:i=l)
 .rw[if_pos z]at h ⊢;$(xR h)
 rw[if_neg z]at h ⊢;ext(a:l<i/\i<=k)
 .rw[if_pos a]at h ⊢;$(xR h)
 rw[if_neg a]at h ⊢;$(xR h)
theorem Hu(O:Ord lt n):∀(f:Nat) (p:Array Nat) (k:Nat),dB p n->k+f=n->fM lt p k->∃q,Comes lt (okN n) (kas_bin f p k) q/\dB q n/\fM lt q n
 |0,p,k,P,o,g=>{p,.ret p,P,by rw[<-o];$g}
 | f+1,p,k,P,o,g=>by
  let(l,c,hl,a,b):=AB O P (by lia) g k 0 k (nT _) (eT _) (by lia) (λi h=>by lia)<|λi h hik=>by$_
  let m:=WV (p:=p) (k:=k) (l:=l) (by rw[P.size];$_) hl;let t:dB (bubble p k<|k-l) n:=by
   $(P.perm (bubble_perm _ _ _) (bubble_size _ _ _) (λi=>if i=l then k else if l<i/\i<=k then i-1 else i) (λi h=>{by(try dsimp);split<;>(try split)<;>$_,?_}) λi j h u e=>?_)
   .rw[m]
    (try dsimp)
    split
    .rfl
    split<;>rfl
   (try dsimp at e)
   $$$$$e<;>$$$$$e<;>(try $$$$$e)<;>(try $$$$$e)<;>lia
  let r:fM lt (bubble p k<|k-l) (k+1):=by
   ext i j s u;simp?[m i,m j];split
   .rw[if_neg ∅,if_pos ∅];$(b (j-1) (by lia) (by lia))
   split
   .rw[if_neg ∅,if_pos ∅];$(g _ _ ∅ ∅)
   split
   .$(a i ∅)
   split
   .$(g _ _ (by lia) ∅)
   $(g _ _ s (by lia))
  let(q,d,e):=Hu O f (bubble p k<|k-l) (k+1) t (by lia) r;$({q,Comes.bind c d,e})
def GK:dB (acC<|hE n) n:=by
 let g:∀i,i<n->(acC<|hE n).getD i 0=i:=λi a=>by simp[a]
 refine{⋯,λi a=>by rw[g i a];$a,λi j a b e=>by simp?[g i a,g j b]at e;$e,⋯}
def SK(O:Ord lt n)(hn:1<=n):∃q,Comes lt (okN n) (ahb n) q/\dB q n/\fM lt q n:=by
 let P:=GK (n:=n);$$(ahb);let(m,a,b,c,d,e):=yT O P (n-1) 1 (eT _) ∅<|λi j l u=>by$_
 let h:∀(p:Array Nat) (m:Nat),dB p n->1<=m->m<=n->fM lt p m->∃q,Comes lt (okN n) (if m<n then kas_bin (n-max m 1) p (max m 1)else .ret p) q/\dB q n/\fM lt q n:=λp m P f g hu=>by split;simp![Hu];$({p,.ret p,P,by grind})
 ext(k:m=n)
 .let(q,f,g):=h _ m P b (by lia) d;$({q,Comes.bind (a:=(m,acC<|hE n)) (Comes.bind a ?_) f,g});rw[if_pos (by$$$$k)];$(.ret _)
 ext(o:m>1)
 .let(q,f,g):=h _ m P b (by lia) d;$({q,Comes.bind (a:=(m,acC<|hE n)) (Comes.bind a ?_) f,g});rw[if_neg (by$$$$k),if_pos o];$(.ask (P.ok (by lia) ∅ ∅) ?_);rw[d 0 (m-1) ∅ ∅];$(.ret _)
 let hm:m=1:=by lia
 subst hm;let hl:=e (by lia)
 let(r,v,b1,c1,w):=FW O P (n-2) 2 (by lia) (by lia) (λi j l u=>by
  let f:i=0:=by lia
  let g:j=1:=by lia
  rw[f,g];$hl)
 let s:=U4 (m:=r) P ∅;let(t,x,b2,c2,y,_):=yT O s (n-r) r (by lia) (by lia)<|RL P ∅ w;let(q,f,g):=h _ t s (by lia) (by lia) y;$({q,Comes.bind (a:=(t,ad2 (acC<|hE n) 0 r)) (Comes.bind a ?_) f,g});rw[if_neg (by$$$$k),if_neg ∅];$$(kas_descPart);apply Comes.bind v;rw[if_neg ⋯];$(Comes.bind x<|.ret _)
end
end
section
open PySem.W
theorem Comes.wp (e:∀i j,ok i j->∀C:Bool->cA->Prop,C (lt i j) s->b i j C s)(c:Comes lt ok t a)(q:Q a s):t.kasWp b Q s:=by
 induction c with
 |ret a=>$q
 |ask h _ f=>$(e _ _ h _<|f q)
end
def fB(h:nk)(L:dn):Heap:={h with objs:=h.objs.extract 0 L}
def Nq (xs:Array a)(L b:Nat):(xs.extract 0 L)[b]?=if b<L then xs[b]? else am:=by grind
def EH(h)(L b):(fB h L).get? b=if b<L then h.get? b else am:=by delta fB Heap.get?;rw[Nq];ext(a:b<L);simp!;rw[if_neg a,if_neg a]
def Ep (e:(fB h L).get? b=al o):b<L/\h.get? b=al o:=by simp![EH]
section
variable{X:Cx}{pins:List (dn×zI)}{σ:St}{H:Hp}{s:cA}{pos:u1}{e:hF}
def Inv.A7 (I:Inv X pins σ H s)(a:s.heap.Ns X.env.locals m):Fr (fB s.heap X.env.locals) X.env.locals s.heap m :=
 {a,λb o e=>(Ep e).2,by show(s.heap.objs.extract 0 X.env.locals).size<=_;simp[Nat.min_le_left]}
def Inv.Fg (I:Inv X pins σ H s)(hl:∀(i:Nat) (x:eS) (v:V),X.N[i]?=al x->σ[i]?=al (al v)->bV X.env.scope x->∃u,RelV v u/\Look X.env s.heap m x u)(t:h'.Ns X.env.locals m)(keep:∀b o,b≠X.env.locals->s.heap.get? b=al o->h'.get? b=al o):Inv X pins σ H {s with heap:=h',toks:=tk}:=by
 let iF:=I.iF;let f:∀b o,X.dj.heap.get? b=al o->b≠X.env.locals:=λb o e=>gD<|iN (fj e) I.ok.above;let a:∀x c,X.env.cells.lookup x=al c->∀v,s.heap.IsCell c v->h'.IsCell c v:=λx c e v ⟨o,ho,hd⟩=>{o,keep c o (iF x c e) ho,hd};$({I.ok,I.os,I.bare,{λb o e n g h=>keep b o (f b o e)<|I.base.keep b o e n g h,λb o e n g h=>?_,I.base.free,λb o e h=>?_,I.base.iS,I.base.hX,I.base.iY},{m,t,λi x v w y A=>?_},λx c e=>?_,I.free,I.fA,λp B=>?_,?_,I.len})
 .let(sl,q):=I.base.slot b o e n g h;$({sl,keep b _ (f b o e) q})
 .let(j,q):=I.base.there b o e h;$({j,keep b j (f b o e) q})
 .let(u,r,l):=hl i x v w y A;$({u,r,?_});let l||(k,c,e,z):=l
  .$(ι l)
  $(τ {k,c,e,a x c e _ z})
 .let(v,z):=I.cell x c e;$({v,a x c e v z})
 .let(e,n,ne,nf,d):=I.pin p B;$({keep p.1 p.2 ne e,n,ne,nf,d})
 $(I.ao.tracked λb u g e=>keep b u (λz=>g<|z ▸ I.free) e)
theorem Ca (F:Fr (fB h L) L h' m)(N:News (fB h L) L h' a)(sub:∀q∈lG (fB h L) h L,q∈a):∀b o,b≠L->h.get? b=al o->h'.get? b=al o:=λb o c e=>by
 ext(hl:b<L)
 .$(F.keep b o<|(λhb e=>by simp![EH]) hl e)
 let d:(fB h L).get? b=am:=by
  cases q:(fB h L).get? b with
  |none=>rfl
  |some u=>$(absurd (Ep q).1 hl)
 $((N _<|sub _<|Av c d e).1)
def Pa{prog:hZ}{w:nL}{A:ow}{E:cm->cA->Prop}{s:cA}{a:dn}{vs:List cm}{n:Nat}{P:Fin->cA->Prop}(ho:s.heap.get? a=al (aaE "list" vs.toArray n))(m:vs.length<2)
 (h:∀h' c,h'.get? a=al (aaE "list" vs.toArray c)->(∀b o,b≠a->s.heap.get? b=al o->h'.get? b=al o)->P (.done<|.ret .none) {s with heap:=h'}) :
  gj (hM prog w) A (ZI.«list.sort» {[.ref a],[]}) P E s:=by
 rw[list_sort_plain];let k:=fj ho;$(bg<|listItems_at ho ρ ?_);$(bg<|aij ho ρ ?_);obtain⟨j,i⟩:∃j,(s.heap.update a (ZF λ_=>#[])).get? a=al (aaE "list" #[] j) :=
  {_,ahJ ho<|λ_=>#[]}
 refine bg<|seqEpoch_at i ρ<|bg<|ahS (bg<|adC<|pl ?_) (by rw[wm];simp;$_);generalize l:(((s.heap.update a (ZF λ_=>#[])).push (aaE "tuple" vs.toArray 0)).push (aaE "list" #[] 0))=g at *;let d:g.get? a=al (aaE "list" #[] j):=by
  rw[<-l,afA _ _ _ (by rw[agz,adF];$(gD<|abi k)),
   afA _ _ _ (by rw[adF];$(gD k))]
  exact i
 let kp:∀b o,b≠a->s.heap.get? b=al o->g.get? b=al o:=λb o f e=>by rw[<-l];$(eu _<|eu _ ?_);rw[sW _ _ (Ne.symm f)];$e
 dsimp;let hz:vs.toArray.size<2:=by$$$$m
 rw[if_pos hz,if_pos hz];$(bg<|dr ?_);$(bg<|dr ?_);dsimp;$(bg<|seqEpoch_at d ρ<|bg<|aij d ρ ?_ (hsz2:=by simp[af',agT];rw[wm];$_));simp?[bne_self_eq_false,kB];$(dr ?_);let p:Array.map (λx=>x.2) (af'<|agT general' (vs.toArray.zip vs.toArray) #[] 7 am)=vs.toArray:=by rw[List.zip_toArray,List.map_toArray,afT<|eT _]
 rw[p];$(h _ _ (ahJ d<|λ_=>vs.toArray) λb o f e=>?_);rw[sW _ _ (Ne.symm f)];$(kp b o f e)
def Inv.Au (I:Inv X pins σ H s)(hl:∀(i:Nat) (x:eS) (v:V),X.N[i]?=al x->σ[i]?=al (al v)->bV X.env.scope x->∃u,RelV v u/\Look X.env s.heap m x u)(h:h'.Ns X.env.locals m)(keep:∀b o,b≠X.env.locals->s.heap.get? b=al o->h'.get? b=al o)(j:s.heap.get? D=am)(hex:∀b∈X.ex,∃o,s.heap.get? b=al o)(a:cH X.prog X.w (upd H D o) h' D o):Inv X pins σ (upd H D o) {s with heap:=h',toks:=tk}:=by
 let J:Inv X pins σ H {s with heap:=h',toks:=tk}:=I.Fg hl h keep;let hHD:=I.ao.dead j;let ne:∀b u,H b=al u->b≠D:=by lia
 let k:X.env.locals≠D:=λz=>by let(_,(oL,_,_,hoL,_),_):=I.loc;simp!
 refine{J.ok,J.os,J.bare,{J.base.keep,J.base.slot,λb ob e n f=>?_,J.base.there,λb xs e=>?_,λb ob u e=>?_,λb l e=>?_},J.loc,J.cell,?_,λx c e=>?_,λp g=>?_,λb u e=>?_,J.len}
 .let z:b≠D:=λz=>by let(o',q):=I.base.there b ob e f;simp!
  rw[aA z];$(J.base.free b ob e n f)
 .let q:=J.base.iS b xs e;rwa[aA (ne b _ q)]
 .let q:=J.base.hX b ob u e;rwa[aA (ne b _ q)]
 .let(more,q):=J.base.iY b l e;$({more,by rw[aA (ne b _ q)];$q})
 .rw[aA k];$J.free
 .let(v,oc,ho,hd):=I.cell x c e;rw[aA (λz=>by simp!)];$(J.fA x c e)
 .let(q,n,nl,nf,d):=J.pin p g;let q0:=(I.pin p g).1;$({q,by rw[aA (λz=>by simp!)];$n,nl,nf,d})
 ext(z:b=D)
 .subst z;rw[a9]at e;$$$$$$e;$a
 rw[aA z]at e;$((J.ao b u e).gH (λc w' hc q=>q) (λc q=>by rw[aA (ne c _ q)];$q) λc xs q=>by rw[aA (ne c _ q)];$q)
def eO{a:Type}{l:List a}{i:Nat}{d:a}(h:i<l.length):l.getD i d=l[i]:=by simp?[l4,bt h];rfl
def nM(fs:List eS)(i j:Nat):Bool:=bd<|(fs.getD i aaz).cps.toList<(fs.getD j aaz).cps.toList
def l7{a b:eS}(h:a.cps.toList=b.cps.toList):a=b:=by obtain⟨⟨a⟩⟩:=a;simp!
def Tx (nd:fs.Nodup):Ord (nM fs) fs.length where
 trans:=λi j k c a=>decide_eq_true<|ac0 (of_decide_eq_true c)<|of_decide_eq_true a
 total:=λi j d f b=>by
  delta nM;rw[eO d,eO f];ext(h:fs[i].cps.toList<fs[j].cps.toList)
  .$(ι<|decide_eq_true h)
  $(τ (decide_eq_true ?_));ext(a:fs[j].cps.toList<fs[i].cps.toList)
  .$a
  $(absurd ((He nd).1 (l7<|abr (XP.1 a)<|XP.1 h)) b)
 gB:=λi=>decide_eq_false<|abe _
def nG(K:f')(H:Hp)(vs:List V)(fs:List eS):Prop:=vs.length=fs.length/\∀(i:Nat) (f:eS),fs[i]?=al f->∃a b,vs[i]?=al (.ref a)/\bf K H a b/\b[0]?=al (.str f)
def Ordered(fs:List eS)(vs out:List V):Prop:=∃q:Array Nat,dB q vs.length/\fM (nM fs) q vs.length/\out=q.toList.map λi=>vs.getD i .aG
def v7(K:f'):List V->Hp->VK->Prop:=λxs H Q=>∃p vs fs,xs=[.ref p]/\Rd H p (.L vs)/\nG K H vs fs/\fs.Nodup/\vs.length<64/\∀out,Ordered fs vs out->∀l,H l=am->Q (.ref l) (upd H l<|.L out)
theorem Gj (r:aO vs its):∀(l:List Nat),(∀i∈l,i<vs.length)->aO (l.map λi=>vs.getD i .aG) (l.map λi=>its.getD i .none)
 |[],_=>.nil
 | i::l,h=>by
  let a:=h i fm;let hi':i<its.length:=by rw[<-r.length];$a
  $(.cons ?_ (Gj r l λj b=>h j<|fk _ b));let(u,hu,ru):=r.get<|bt a;simp!
def lb (P:dB q n):∀i∈q.toList,i<n:=λi b=>by
 let(k,c,e):=kA b;let a:k<q.size:=by$$$$c
 let:=P.lt k (by rw[<-P.size];$a);simp!
theorem kat_tups (I:Inv X pins σ H s):∀{fs:List eS}{vs:List V}{its:List cm},nG X.K H vs fs->aO vs its ->
  ∃c:List cm,acG s.heap its c/\c.length=fs.length/\(∀v∈c,∃x t,v=Ts x t)/\∀(i:Nat) (f:eS),fs[i]?=al f->∃a o xs n t,its[i]?=al (.ref a)/\s.heap.get? a=al o/\o.data=.seq xs n/\xs[0]?=al (Ts f t)
 | [],[],_,h,r=>by
  $$$r;$({[],.nil,ρ,λv j=>by simp at j,λi f e=>by simp at e})
 |[],_::_,_,h,_=>by simp[nG]at h
 |_::_,[],_,h,_=>by simp[nG]at h
 | f::fs,v::vs,_,h,r=>by
  cases r with
  |cons m rs =>
   let(a,ws,p,q,w):=h.2 0 f ρ;$$$$$$p;$$m;let h':nG X.K H vs fs:=⟨by$$$$(h.1),λi g e=>by
    let(b,us,k,l,y):=h.2 (i+1) g<|e
    $({b,us,by$$$$k,l,y})⟩
   let(c,k1,k2,k3,A):=kat_tups I h' rs;let(its,B,(o,ho,C,n,hd),_):=I.tuple q;let(u,D,E):=B.get w;let(t,rfl):=E;let d:its.toArray[0]?=al (Ts f t):=by$$$$D
   $({Ts f t::c,.cons ho C hd d k1,by simp[k2],λv j=>?_,λi g e=>?_})
   .let z||z:=eW.1 j
    .$(⟨f,t,z⟩)
    $(k3 v z)
   cases i with
   |zero=>simp at e;$$e;$({a,o,_,n,t,ρ,ho,hd,d})
   |succ i=>let(b,F,xs,G,t',k,l):=A i g<|e;$({b,F,xs,G,t',by$$$$k,l})
theorem KatTups.keeps (k:∀b o xs n,o.data=.seq xs n->h.get? b=al o->h'.get? b=al o)(t:acG h vs fs):acG h' vs fs:=by
 induction vs generalizing fs with
 |nil =>
  cases fs with
  |nil=>$t
  |cons _ _=>$t.elim
 |cons _ _ c =>
  cases fs with
  |nil=>$t.elim
  |cons _ _=>let((a,o,xs,n,e,ho,d,hd,r),t):=t;$({{a,o,xs,n,e,k _ _ _ _ hd ho,d,hd,r},c t})
def oD(lt:Nat->Nat->Bool)(vs out:List V):Prop:=∃q:Array Nat,dB q vs.length/\fM lt q vs.length/\out=q.toList.map λi=>vs.getD i .aG
theorem FN(J:X.ex=[])(I:Inv X pins σ H s)(K:aO vs its)(h2:2<=vs.length)(h64:vs.length<64)(O:Ord lt vs.length)(hT:(T==T)=bi)(t:∃a:List cm,acG s.heap its a/\a.length=vs.length/\∀v∈a,∀h:nk,agg (hM X.prog X.w) h (typeOf v) T)(L:∀i j,i<vs.length->j<vs.length->i≠j->∀h':nk,(∀b o xs n,o.data=.seq xs n->s.heap.get? b=al o->h'.get? b=al o)->∀C:Bool->cA->Prop,C (lt i j) {s with heap:=h'}->gj (hM X.prog X.w) X.A.in1.in1 (agA (tuples'<|T != .type "tuple") (its.getD i ql)<|its.getD j ql) C (λ_ _=>False) {s with heap:=h'})(q:∀out,oD lt vs out->∀l,H l=am->Q (.ref l) (upd H l<|.L out))(hn:s.heap.Ns X.env.locals m)(hl:∀(i:Nat) (x:eS) (v:V),X.N[i]?=al x->σ[i]?=al (al v)->bV X.env.scope x->∃u,RelV v u/\Look X.env s.heap m x u)(M:∀p∈lG (fB s.heap X.env.locals) s.heap X.env.locals,p.1<D)(F:Fr (fB s.heap X.env.locals) X.env.locals h' m)(N:News (fB s.heap X.env.locals) X.env.locals h' ((D,aaE "list" #[] r)::lG (fB s.heap X.env.locals) s.heap X.env.locals))(hR:∀P,EP X pins σ Q (.ref D) P->R P) :
  gj (hM X.prog X.w) X.A.in1.in1 (keyKind' its.toArray) (λκ s'=>(ahb its.length).kasWp (W.kas_ask X.prog X.w X.A.in1.in1 κ its) (λp S=>W.KasFin (fB s.heap X.env.locals) X.env.locals m D r (p.toList.map λi=>its.getD i ql) R S) s') (λ_ _=>False) {s with heap:=h'}:=by
 let B:=K.length;let(oL,esL,epL,U,Y,_):=id hn;let(a,t,kl,ks):=t;let kp:=Ca F N λq E=>fk _ E;let d:∀b o xs n,o.data=.seq xs n->s.heap.get? b=al o->h'.get? b=al o:=λb o xs n hd ho=>kp b o (λz=>by rw[z,U]at ho;$$$$$$ho;rw[Y]at hd;lk) ho;$(W.kat_kind (KatTups.keeps d t) (by lia) (λv hv=>ks v hv _) hT ?_);let(Z,cq,G,uq):=SK O (by lia);rw[<-B];$(cq.wp (λi j ok C hC=>L i j ok.1 ok.2.1 ok.2.2 h' d C hC) ?_);let f:s.heap.get? D=am:=by
  cases y:s.heap.get? D with
  |none=>rfl
  | some o=>let a1:=N (D,aaE "list" #[] r) fm;$(absurd (M _<|Av a1.2.1 a1.2.2 y)<|uz _)
 $(W.KasFin.intro F N (.head λp hp=>gD<|M p hp) λYB c g k=>hR _ ?_);let YC:=Ca g k λq E=>fk _ E;$({.ref D,upd H D<|.L (Z.toList.map λi=>vs.getD i .aG),I.Au hl g.ns YC f (λb hb=>by rw[J]at hb;simp at hb) ?_,ρ,q _ ⟨Z,G,uq,ρ⟩ D<|I.ao.dead f});$({?_,_,c,Gj K _<|lb G,(k _ fm).1});rw[a8,hS,G.size,wm];lia
theorem UQ{vs:List V}(h:vs.length<2):vs=(hE vs.length).toArray.toList.map λi=>vs.getD i .aG:=by
 cases vs with
 |nil=>rfl
 |cons v vs =>
  cases vs with
  |nil=>rfl
  |cons _ _=>simp at h;$_
theorem zr(t:X.ex=[])(I:Inv X pins σ H s)(Y:Rd H p (.L vs))(u:vs.length<64)(O:Ord lt vs.length)(Z:(T==T)=bi)(kt:∀its,aO vs its->∃k:List cm,acG s.heap its k/\k.length=vs.length/\∀v∈k,∀h:nk,agg (hM X.prog X.w) h (typeOf v) T)(B:∀its,aO vs its->∀i j,i<vs.length->j<vs.length->i≠j->∀h':nk,(∀b o xs n,o.data=.seq xs n->s.heap.get? b=al o->h'.get? b=al o)->∀C:Bool->cA->Prop,C (lt i j) {s with heap:=h'}->gj (hM X.prog X.w) X.A.in1.in1 (agA (tuples'<|T != .type "tuple") (its.getD i ql)<|its.getD j ql) C (λ_ _=>False) {s with heap:=h'})(q:∀out,oD lt vs out->∀l,H l=am->Q (.ref l) (upd H l<|.L out)):gj (hM X.prog X.w) X.A (call (.builtin "sorted") [.ref p]) (EP X pins σ Q) X.xe s:=by
 let(z,its,n,d,e):=Y.ok I.ao;let hlen:=d.length;let E:s.heap.IsList p its.toArray:={_,e,ρ,n,ρ};let(m,r,hl):=I.loc;let F:=r;let(oL,G,J,f,K,_):=F;ext(h2:2<=its.length)
 .$(W.kat_sorted (I.A7 r) BE E h2 ∅ λD e1 h' F' N' L=>FN t I d ∅ u O Z (kt its d) (B its d) q r hl L F' N' λ_ x=>x)
 $(aaP af9 afE afG (afH _) ?_);$$(ZI.«sorted»);$(bg (m:=ags "sorted" 1 1 _)<|dr<|bg<|collect_list E (bg<|adC ?_ (by rw[wm];$_)) (by rw[wm];$_));generalize M:((s.heap.push<|aaE "list" #[] 0).update s.heap.objs.size (ZF (· ++ its.toArray)))=g;let N:g.objs.size=s.heap.objs.size+1:=by rw[<-M,adF,agz]
 let P:∀b o,s.heap.get? b=al o->(g.push<|aaE "list" its.toArray 0).get? b=al o:=λb o q=>by let lt:=fj q;$(eu _ ?_);rw[<-M,sW _ _<|abh lt];$(eu _ q)
 let R:(g.push<|aaE "list" its.toArray 0).get? g.objs.size=al (aaE "list" its.toArray 0):=gi _ ρ;$(bg<|pl<|se adf ⟨_,R,ρ⟩ acV (Pa (s:={s with heap:=g.push (aaE "list" its.toArray 0)}) R ∅ λh' c hD kp=>⟨_,ρ,dr ⟨_,ρ,?_⟩⟩)<|adg _);let a:s.heap.get? g.objs.size=am:=by
  cases y:s.heap.get? g.objs.size with
  |none=>rfl
  |some o=>let:=fj y;rw[N]at this;$(absurd this<|ah9.2<|ach _)
 let S:∀b o,b≠X.env.locals->s.heap.get? b=al o->h'.get? b=al o:=λb o _ q=>kp b o (λz=>by rw[z,a]at q;$(nO q))<|P b o q;let U:h'.Ns X.env.locals m:={oL,G,J,kp _ _ (λz=>by rw[z,a]at f;$(nO f))<|P _ _ f,K,by assumption};let one:oD lt vs vs:=by$({(hE vs.length).toArray,GK,λi j hij hj=>by$_,?_});$(UQ ∅)
 refine{.ref g.objs.size,upd H g.objs.size<|.L vs,I.Au (tk:=s.toks) hl U S a (by simp!) ⟨z,its,c,d,hD⟩,ρ,q vs one _<|I.ao.dead a}
theorem Ia(D:X.ex=[]):bN X (.builtin "sorted") (v7 X.K):=by
 ext pins s σ H xs us Q I r h;let(p,vs,fs,rfl,N,c,nd,E,q):=h;let(u,rfl,O):=r.one;$$O;$(zr D (T:=.type "str") I N E (by rw[c.1];$(Tx nd)) ρ (λits y=>?_) (λits y i j A B F h' n C P=>?_) q)
 .let(R,S,U,V,_):=kat_tups I c y;$({R,S,by rw[U];$(c.1.symm),λv Y h=>?_});let(x,t,rfl):=V v Y;$(adv ρ)
 let(_,_,_,_,w):=kat_tups I c y;rw[c.1]at A B;let(a,o,xs,n1,t1,Z,a2,G,d):=w i _<|bt A;let(b,o',ys,n2,t2,b1,b2,J,f):=w j _<|bt B;let ea:its.getD i ql=.ref a:=by rw[l4,Z];rfl
 let eb:its.getD j ql=.ref b:=by rw[l4,b1];rfl
 rw[ea,eb];apply aha (n _ _ _ _ G a2) G (n _ _ _ _ J b2) J;obtain⟨g,k,ex⟩:∃g k,xs.toList=g::k:=by
  cases hx:xs.toList with
  |nil=>rw[<-gf,hx]at d;$(nO d)
  |cons g k=>$(⟨g,k,ρ⟩)
 obtain⟨l,m,L⟩:∃l m,ys.toList=l::m:=by
  cases hy:ys.toList with
  |nil=>rw[<-gf,hy]at f;$(nO f)
  |cons l m=>$(⟨l,m,ρ⟩)
 rw[<-gf,ex]at d;rw[<-gf,L]at f;$$$$$$d;$$$$$$f;simp?[ex,L];let M:fs[i]≠fs[j]:=λz=>F<|(He nd).1 z;$(af3<|abK ?_);simp[decide_eq_false M];$(ag'<|oneLt_str ?_);let:nM fs i j=bd (fs[i].cps.toList<fs[j].cps.toList):=by$$(nM);rw[eO A,eO B]
 simp?[<-this];$P
def uP(c:List eS):Prop:=c.Pairwise λa b=>¬(b.cps.toList<a.cps.toList)
def zT (k:acB vs h)(c:xs.Perm (pairsOf vs))(hs:SortedToK strKind xs (pairsOf vs).size) :
  ∃a,acB (xs.map (·.2)).toList a/\a.Perm h/\uP a:=by
 let(a,d,v,_):=sorted_out_str k c hs;$({a,d,v,?_});let hsz:xs.size=(pairsOf vs).size:=c.size_eq;let f:∀p,p∈xs.toList->p.1=p.2/\p.1∈vs:=λp l=>mem_zip_self (by
  let hl:xs.toList.Perm (vs.zip vs):=by rw[<-pairsOf_toList];$(ad'.1 c)
  $(hl.mem_iff.1 l))
 let g:a.length=xs.size:=by rw[<-d.strs];simp
 let get:∀(i:Nat) (b:i<a.length),KK strKind xs i=a[i].cps.toList:=λi b=>by
  let n:i<xs.size:=by rw[<-g];$b
  let w:=d.strs;let m:=f xs[i] ⋯;let(y,t,o):=k.all _ m.2;let x:xs[i]=(Ts y t,xs[i].2):=by rw[<-o]
  rw[KK_str n x];let r:a[i]?=al y:=by simp?[<-w,dk,gf,aff,ib n];simp;rw[<-m.1,o];rfl
  rw[bt b]at r;$$$$$$r;rfl
 delta uP;rw[pA];ext i j b z u;let q:=hs i j (aaV u) (by simp!);rw[get i b,get j z]at q;$(of_decide_eq_false q)
def uv:List V->Hp->VK->Prop:=λxs H Q=>∃p kvs b,xs=[.ref p]/\Rd H p (.dK kvs)/\kvs.map (·.1)=b.map uy/\kvs.length<64/\∀a,a.Perm b->uP a->∀l,H l=am->Q (.ref l) (upd H l<|.L<|a.map V.str)
theorem yU (h:acB us ys):aO (ys.map V.str) us:=by
 induction h with
 |nil=>$(.nil)
 |cons y t _ a=>$(.cons ⟨t,ρ⟩ a)
theorem GO:∀{a:List eS}{vs:List cm},vs.length=a.length->(∀(j:Nat) (u:cm),vs[j]?=al u->∃y,a[j]?=al y/\kG (uy y) u=bi)->acB vs a
 |[],[],_,_=>.nil
 |[],_::_,h,_=>by simp at h
 |_::_,[],h,_=>by simp at h
 | y::a,v::vs,h,k=>by
  let(y',b,c):=k 0 v ρ;$$$$$$b;let(i,t,z,_)||(x,t,z,d):=jZ c
  .lk
  $$$z;rw[d];$(.cons _ _ (GO (by$$$$h) λj u e=>by$$$$(k (j+1) u (e))))
theorem yH(hex:X.ex=[])(U:X.calm=bi):bN X (.builtin "sorted") uv:=by
 ext pins s σ H xs us Q I r h;let(p,kvs,v,rfl,Y,G,h64,q):=h;let(u,rfl,Z):=r.one;$$Z;let(z,lo,J,i,dd):=mZ I.ao Y;let(ep,K):=dd.dictAt;let(m,hn,hl):=I.loc;let A:∀b∈X.ex,∃o,s.heap.get? b=al o:=by simp!
 let Fl:=I.A7 hn;let Nl:News (fB s.heap X.env.locals) X.env.locals s.heap (lG (fB s.heap X.env.locals) s.heap X.env.locals):=BE;let hkl:=i.length;let L:=i.keys;let M:v.length=kvs.length:=by$$$$((congrArg List.length G).symm)
 $(W.kdu_sorted (W.kdl_dict lo) (I.ok.hd U) Fl Nl K (by rw[wm];lia) λB h' tk vs N C O hvl hv=>?_);let D:acB vs v:=GO (by simp!) λj u e=>by
  let(k,x,e1,e2):=hv j u e;let a:(J.map (·.1))[j]?=al k:=by rw[dk,e1];rfl
  simp?[<-L,G,dk]at a;cases P:v[j]? with
  |none=>rw[P]at a;$(nO a)
  |some y=>rw[P]at a;$$$$$$a;$(⟨y,ρ,e2⟩)
 let E:=(C _ fm).1;let d:=(C _ fm).2;let g:vs.length<64:=by simp!
 $(se adf {_,E,ρ} acV (ahI afa E D.keysOf (λv₁ v₂ rest e=>afF (by rw[<-e];$D)) g λf a1 a2=>{_,ρ,?_})<|adg _);let(l,b1,R,b3):=zT D a1 a2;let(c,hD):=aii E;let n:s.heap.get? B=am:=by
  cases y:s.heap.get? B with
  |none=>rfl
  |some o=>$(absurd (O _<|Av d.1 d.2 y)<|uz _)
 let kp:=Ca N C λq hq=>fk _ hq;let t:∀b o,b≠B->h'.get? b=al o->(sortedHeap h' B vs ((af' f).map (·.2))).get? b=al o:=λb o F e=>(ah6 F<|fj e).trans e;let S:(sortedHeap h' B vs ((af' f).map (·.2))).Ns X.env.locals m:=by let(oL,es,T,ho,r):=N.ns;$({oL,es,T,t _ _ (λz=>d.1 z.symm) ho,r})
 $({.ref B,upd H B<|.L<|l.map V.str,I.Au hl S (λb o F e=>t b o (by lia)<|kp b o F e) n A ⟨?_,_,c,yU b1,∅⟩,ρ,q l R b3 B<|I.ao.dead n});simp?[a8,R.length_eq,M];$z
theorem oZ{f:Type}{R:f->f->Prop}(d:∀a b,R a b->R b a->a=b):∀{l c:List f},l.Perm c->l.Pairwise R->c.Pairwise R->l=c
 |[],c,p,_,_=>(List.Perm.eq_nil p.symm).symm
 |a::l,[],p,_,_=>by$$$p.length_eq
 | a::l,b::c,p,h,h'=>by
  rw[Rg]at h h';let e:a=b:=by
   let g:=p.mem_iff.1 fm;let i:=p.mem_iff.2 fm;let z||z:=eW.1 g
   .$z
   let y||y:=eW.1 i
   .$y.symm
   $(d a b (h.1 b y)<|h'.1 a z)
  $$e;rw[oZ d (List.Perm.cons_inv p) h.2 h'.2]
def dh(a b:eS):Bool:=!bd (b.cps.toList<a.cps.toList)
def aD(a:List eS):List Str:=a.mergeSort dh
def mX:dh a b=bi↔¬(b.cps.toList<a.cps.toList):=by$$(dh);simp
def zf(a b c)(d:dh a b=bi)(f:dh b c=bi):dh a c=bi:=by rw[mX]at *;grind
def AH(a b):(dh a b||dh b a)=bi:=by grind [dh]
def HD(a):uP (aD a):=by$((ub (le:=dh) zf AH a).imp λh=>mX.1 h)
def ui (p:c.Perm d)(h:uP c):c=aD d :=
 oZ (λa b f g=>l7<|abr (XP.1 f)<|XP.1 g) (p.trans (gk d dh).symm) h (HD d)
def mQ:Dat->Option eS
 |.U (.str x::_)=>al x
 |_=>am
def firstsD:List Dat->Option (List eS)
 |[]=>al []
 |d::r=>(mQ d).bind λx=>(firstsD r).map (x::·)
def jf(d:Dat):Str:=(mQ d).getD aaz
def fK(a b:Dat):Bool:=dh (jf a)<|jf b
def nK(ds:List Dat):List Dat:=ds.mergeSort fK
theorem Gv:∀{ds:List Dat}{fs:List eS},firstsD ds=al fs->fs=ds.map jf/\∀d∈ds,∃x,mQ d=al x
 |[],_,e=>by$$$$$$e;$({ρ,λd h=>by simp at h})
 | d::r,_,e=>by
  let e:(mQ d).bind (λx=>(firstsD r).map (x::·))=al _:=e;cases b:mQ d with
  |none=>rw[b]at e;$(nO e)
  |some x =>
   rw[b]at e;cases a:firstsD r with
   |none=>rw[a]at e;$(nO e)
   |some ys=>rw[a]at e;$$$$$$e;let(h1,h2):=Gv a;simp![jf]
theorem HP{K:f'}{H c:Hp}(s:aj c H):∀{ds:List Dat}{vs:List V}{fs:List eS},firstsD ds=al fs->aB K c ds vs->nG K H vs fs
 |[],_,_,e,r=>by$$$$$$e;rw[show _=[]from r];$({ρ,λi f e=>by simp at e})
 | d::ds,_,_,e,g=>by
  let(v,vr,k,l,rs):=g;let e:(mQ d).bind (λx=>(firstsD ds).map (x::·))=al _:=e;cases a:mQ d with
  |none=>rw[a]at e;$(nO e)
  |some x =>
   rw[a]at e;cases b:firstsD ds with
   |none=>rw[b]at e;$(nO e)
   |some ys =>
    rw[b]at e;$$$$$$e;let(m,h2):=HP s b rs;simp[k];$({by simp[m],λi f h=>?_});cases i with
    |zero =>
     simp at h;$$h;delta mQ at a;$$$$$a
     .$$$$$$a;let(p,n,rfl,o,w1,wr,q,j,_):=l;$$j;$({p,n,ρ,bf.mono s o,by rw[q];rfl})
     $(nO a)
    |succ i=>simp!
theorem aB.pick{K:f'}{H:Hp}{ds:List Dat}{vs:List V}(r:aB K H ds vs):∀(l:List Nat),(∀i∈l,i<vs.length)->aB K H (l.map λi=>ds.getD i .aG) (l.map λi=>vs.getD i .aG)
 |[],_=>rfl
 | i::l,h=>by
  let b:=h i fm;let a:i<ds.length:=by rw[<-r.length];$b
  let(v,c,d):=r.get<|bt a;$({vs.getD i .aG,_,ρ,?_,aB.pick r l λj f=>h j<|fk _ f});simp?[l4,c,bt a];$d
def Bt{a:Type}(l:List a)(d:a):(hE l.length).map (λi=>l.getD i d)=l:=by apply afV ⋯;ext i h1 b;simp?[za,List.getElem_range,eO b]
def O0 (nd:(ds.map jf).Nodup)(P:dB q ds.length)(U:fM (nM<|ds.map jf) q ds.length):(q.toList.map λi=>ds.getD i .aG)=nK ds:=by
 let pm:(q.toList.map λi=>ds.getD i .aG).Perm ds:=by let:=P.pm.map<|λi=>ds.getD i .aG;rwa[Bt]at this
 let m:∀i,i<ds.length->jf (ds.getD i .aG)=(ds.map jf).getD i aaz:=λi c=>by rw[eO c,eO (by$$$$c)];simp
 let g:(q.toList.map λi=>ds.getD i .aG).Pairwise (λa b=>fK a b=bi/\a∈ds/\b∈ds):=by
  rw[pA];ext i j c d n;let o:i<ds.length:=by rw[<-P.size];$$$$c
  let f:j<ds.length:=by rw[<-P.size];$$$$d
  $({?_,pm.mem_iff.1<|GD _,pm.mem_iff.1<|GD _});let u:=U i j n f;let r:q.toList[i]'(by$$$$c)=q.getD i 0:=by simp?[oy,ib (by$$$$c)];simp
  let t:q.toList[j]'(by$$$$d)=q.getD j 0:=by simp?[oy,ib (by$$$$d)];simp
  simp?[za,r,t];$$(fK);rw[m _ (P.lt i o),m _<|P.lt j f,mX];unfold nM at u;$(λz=>abe _<|ac0 (of_decide_eq_true u) z)
 let k:(nK ds).Pairwise (λa b=>fK a b=bi/\a∈ds/\b∈ds):=by
  $(aaF (λv w p=>{p,?_,?_})<|ub (le:=fK) (λa b c d f=>zf _ _ _ d f) (λa b=>AH _ _) ds)
  .$((gk ds fK).mem_iff.1 v)
  $((gk ds fK).mem_iff.1 w)
 $(oZ (λa b l x=>?_) (pm.trans (gk ds fK).symm) g k);let e:=l7<|abr (XP.1<|mX.1 l.1)<|XP.1<|mX.1 x.1;let(i,c,y):=kA l.2.1;let(j,d,A):=kA l.2.2;let B:(ds.map jf)[i]'(by$$$$c)=(ds.map jf)[j]'(by$$$$d):=by simp[y,A,e]
 let e3:=(He nd).1 B;simp!
def j6:List Dat->Option Res
 |[.bK a]=>if a.length<64 then al (.O (.L ((aD (a.map (·.1))).map .str)))else am
 |[.L ds]=>(firstsD ds).bind λfs=>if fs.Nodup/\ds.length<64 then al (.O<|.L<|nK ds)else am
 |_=>am
theorem tU{K:f'}{H:Hp}:∀{a:List (eS×Dat)}{kvs:List (Key×V)},bO K H a kvs->kvs.map (·.1)=(a.map (·.1)).map uy
 |[],_,h=>by rw[show _=[]from h];rfl
 |(k,d)::a,_,b=>by let(v,r,e,q,t):=b;rw[e];simp[tU t]
theorem mC{K:f'}{H:Hp}:∀(a:List eS),aB K H (a.map .str) (a.map V.str)
 |[]=>rfl
 |x::r=>{.str x,_,ρ,ρ,mC r}
theorem Aq:CD X (λxs H Q=>v7 X.K xs H Q\/uv xs H Q) j6:=by
 ext H0 ps Z σ H f vs ds o Q a S r k;delta j6 at a;$$$$$a
 .ext1 t;$$$$$a
  .ext1 hz;$$$$$$a;let(v,u,rfl,(p,kvs,rfl,w,g),d):=r;$$d;$(τ {p,kvs,t.map (·.1),ρ,Rd.of<|S.sub _ _ w,tU g,by rw[bO.length g];$hz,λss' pm h l hl=>?_});rw[ui pm h];$(k (.ref l) _ f (S.made hl) (aj.refl _) {l,ρ,{_,a9,mC _,S.dv hl},(S.bJ hl).2,(S.bJ hl).1,S.dM hl})
  $(nO a)
 .ext1 j;cases c:firstsD j with
  |none=>rw[c]at a;$(nO a)
  |some fs =>
   rw[c]at a;simp?[mv]at a;$$$$$a
   .ext1 hz;$$$$$$a;let(v,u,rfl,(p,x,rfl,y,rs),d):=r;$$d;let b:=rs.length;$(ι {p,x,fs,ρ,Rd.mono S.sub y,HP S.sub c rs,hz.1,by rw[b];$(hz.2),λout h l hl=>?_});let(q,P,U,z):=h;let(m,_):=Gv c;$$m;simp[b]at P U;let A:=O0 hz.1 P U;$$z;let n:=aB.pick rs q.toList (λi B=>by rw[b];$(lb P i B));rw[A]at n;$(k (.ref l) _ f (S.made hl) (aj.refl _) {l,ρ,{_,a9,n,S.dv hl},(S.bJ hl).2,(S.bJ hl).1,S.dM hl})
   $(nO a)
 $(nO a)
def Gp (a:X.ex=[])(b:X.calm=bi)(c:Gl X "sorted")(hm:X.mg "sorted"=am)(d:bD X e [])(f:DA X [e] fa):DE X (.Call (.Name "sorted" p) [e] [] pos) (bT j6 fa) :=
 iu (bN.or (Ia a)<|yH a b) Aq c hm (by decide +kernel) f ⋯ ⋯ d rfl
structure oU (x:eS):Prop where
 mark:True
def Im (hl:oU x)(hnd:N.Nodup)(hXN:X.N=N)(hkb:(ig scope).findIdx? (·==x)=al kb)(hj:N.findIdx? (·==x)=al j)(f:X.calm=bi)(B:jW X.env.scope scope)(d:iG X.N (ig scope) scope (rE N scope)=bi)(hs:∀x,um iter X.env x=pure x)(h:dC X c iter fi)(i:∀(cl:List (eS×dn)) (C:dn) (a:cA) (H:Hp) (b:List dn),DG (cy X (ig scope) scope cl C a H b) c g)(k:∀(cl:List (eS×dn)) (C:dn) (a:cA) (H:Hp) (b:List dn),mf (cy X (ig scope) scope cl C a H b) ifs fc)(l:∀(cl:List (eS×dn)) (C:dn) (a:cA) (H:Hp) (b:List dn),DD (cy X (ig scope) scope cl C a H b) elt fe):DE X (.ListComp elt [{c,iter,ifs,0}] scope pos) (fD (rE N scope) (al (kb,j)) fi g fc fe):=KA kb j f B d h i k l hs
end
def gG:List Dat->List Dat->Bool
 |[],[]=>true
 |x::xs,y::ys=>dm x y&&gG xs ys
 |_,_=>false
def jU(i j):dm (.int i) (.int j)=bd (i=j):=by rfl
def my(i j):dm (.str i) (.str j)=bd (i=j):=by rfl
theorem Cn:∀xs ys:List Dat,af4 (dG xs) (dG ys)=gG xs ys
 |[],[]=>by rfl
 |x::xs,[]=>by rfl
 |[],y::ys=>by rfl
 |x::xs,y::ys=>by simp?[dG,af4,Cn xs ys];rfl
def v8(xs ys):dm (.U xs) (.U ys)=gG xs ys:=by show aai (.tuple<|dG xs) (.tuple<|dG ys)=_;simp?[aai,Cn]
def mM(xs ys):dm (.L xs) (.L ys)=gG xs ys:=by show aai (.list<|dG xs) (.list<|dG ys)=_;simp?[aai,Cn]
def gr:Dat->Bool
 |.aG=>true
 |.bl _=>true
 |.int _=>true
 |.str x=>sj x
 |_=>false
def qx:Dat->Bool
 |.U ds=>ds.all gr
 |.L ds=>ds.all gr
 |d=>gr d
def xW (h:gr d=bi):jS d=bi/\(toPy d).canLay0=bi/\(toPy d).depth=0:=by
 $$$d<;>first|$$$h|skip
 .$({ρ,by rw[toPy,aaG],by rfl})
 .$({ρ,by rw[toPy,aaG],by rfl})
 .$({ρ,by rw[toPy,aaG],by rfl})
 $({ρ,by rw[toPy,aaG];$h,by rfl})
theorem Be{n:Nat}{p:Dat->Bool}(e:∀d,p d=bi->jS d=bi/\(toPy d).canLay0=bi/\(toPy d).depth<=n):∀{ds:List Dat},ds.all p=bi->kC ds=bi/\ab1 (dG ds)=bi/\adE (dG ds)<=n
 |[],_=>{ρ,by rw[dG,ab1],by simp[dG,adE]}
 | d::ds,h=>by
  simp?[aer,e8]at h;let(a,b,c):=e d h.1;let(f,b',c'):=Be e h.2;$({?_,?_,?_})
  .simp?[kC,a,f];rfl
  .simp?[dG,ab1,b,b'];rfl
  dsimp[dG,adE];lia
theorem ID (h:qx d=bi):jS d=bi/\(toPy d).canLay0=bi/\(toPy d).depth<=1:=by
 let k:=@Be 0 gr λd h=>{(xW h).1,(xW h).2.1,abj (xW h).2.2};let l:gr d=bi->jS d=bi/\(toPy d).canLay0=bi/\(toPy d).depth<=1:=by simp![xW]
 cases d with
 |U ds=>let(a,b,c):=k h;simp![jS,toPy,aaG,PyData.depth]
 |L ds=>let(a,b,c):=k h;simp![jS,toPy,aaG,PyData.depth]
 |_=>$(l h)
def j7 (h:qx d=bi):bU d=bi:=by let(a,b,c):=ID h;dsimp[bU,aey];lia
def Fd (h:ds.all qx=bi):bU (.L ds)=bi:=by let(a,b,c):=@Be 1 qx (λd h=>ID h) ds h;dsimp[bU,aey];simp?[jS,toPy,aaG,PyData.depth,a,b];simp;lia
def l8:bU (.int i)=bi:=j7 ρ
def mz (h:sj x=bi):bU (.str x)=bi:=j7 h
def Hx (h:ds.all gr=bi):bU (.U ds)=bi:=j7 h
theorem uO(d):∀ds:List Dat,inD d ds=ds.any λy=>dm y d
 |[]=>by rfl
 |y::r=>by let:=uO d r;unfold inD at this ⊢;simp?[dG,aa6,this];rfl
def after(g:SF):Out->Option Out
 |.next Z=>g Z
 |o=>al o
def pick (b:Bool)(x y:a):a:=if b=bi then x else y
section
variable{f g:DF}{e:EF}{c c':BF}{s s':SF}{a:AF}{Z Z1 Z2 Z3:DS}{d d':Dat}{ds:List Dat}{r:Res}{b b':Bool}{o o1:Out}{oo:Option Out}
def v_after{g:SF}:(lx s g Z)=(s Z).bind (after g):=by rfl
def u9{g:SF}(h:s Z=al o1)(h':after g o1=oo):lx s g Z=oo:=by rw[v_after,h];$h'
def vB{g:SF}(h:g Z=oo):after g (.next Z)=oo:=h
def Lk{g:SF}{i:Res}{j:DS}(h:r=i)(h':Z=j):after g (.ret r Z)=al (.ret i j):=by rw[<-h,<-h'];rfl
def Mm:(Res.D d).val=d:=ρ
def BQ(h:c Z=al (b,Z1))(h':pick b (s Z1) (s' Z1)=oo):kj c s s' Z=oo:=by$$(kj);rw[h];$h'
def Jf (j:b=bi)(h:x=z):pick b x y=z:=by$$j;$h
def AA (j:b=bn)(h:y=z):pick b x y=z:=by$$j;$h
def v_and(h:c Z=al (b,Z1))(h':pick b (c' Z1) (al (false,Z1))=al (b',Z2)):oQ c c' Z=al (b',Z2):=by$$(oQ);rw[h];$h'
def qM(h:c Z=al (b,Z1))(h':c' Z1=al (b',Z1)):oQ c c' Z=al (b&&b',Z1):=by
 delta oQ;rw[h];$$$b
 .rfl
 $h'
def v_or(h:c Z=al (b,Z1))(h':pick b (al (true,Z1)) (c' Z1)=al (b',Z2)):qC c c' Z=al (b',Z2):=by$$(qC);rw[h];$h'
def tT(h:c Z=al (b,Z1))(h':c' Z1=al (b',Z1)):qC c c' Z=al (b||b',Z1):=by
 delta qC;rw[h];$$$b
 .$h'
 rfl
def i9(h:c Z=al (b,Z1)):pV c Z=al (!b,Z1):=by simp![pV]
def fw(h:f Z=al (d,Z1))(h':mU d=al b):n9 f Z=al (b,Z1):=by simp![n9]
def bL(h:e Z=al (.D<|.bl b,Z1)):fT e Z=al (b,Z1):=by$$(fT);rw[h];rfl
def xp(h:f Z=al (.bl b,Z1))(h':g Z1=al (.bl b',Z1)):uI f g Z=al (.bl<|b&&b',Z1):=by
 delta uI;rw[h];$$$b
 .rfl
 $h'
def FH(h:f Z=al (.bl b,Z1))(h':g Z1=al (.bl b',Z1)):qf f g Z=al (.bl (b||b'),Z1):=by
 delta qf;rw[h];$$$b
 .$h'
 rfl
def v_res(h:f Z=al (d,Z1)):rY f Z=al (.D d,Z1):=by simp![rY]
def ag(h:e Z=al (r,Z1))(h':r.val=d):ic e Z=al (d,Z1):=by simp![ic]
def ay (h:f Z=al (d,Z1))(h1:g Z1=al (d',Z2))(h2:op d d'=al r):cI op f g Z=al (r,Z2):=by simp![cI]
def OL (h:f Z=al (d,Z1))(h':lC d T=al b):kO T f Z=al (.bl b,Z1):=by simp![kO]
def aC (h:a Z=al (ds,Z1))(h':fn ds=al r):bT fn a Z=al (r,Z1):=by simp![bT]
def ff (h0:(Z[i]?).bind ownOf=al j)(h:a Z=al (ds,Z1))(h1:(Z1[i]?).bind ownOf=al t)(h2:fn t.2 ds=al (r,d'))(h3:Z1.set i (kindAt t.1 d')=Z2):sF fn i a Z=al (r,Z2):=by simp![sF]
def ak:js Z=al ([],Z):=ρ
def aa(h:f Z=al (d,Z1))(h':a Z1=al (ds,Z2)):gz f a Z=al (d::ds,Z2):=by simp![gz]
def ck(h:a Z=al (ds,Z1))(h':ds.length<=c6):uN a Z=al (.O<|.L ds,Z1):=by$$(uN);rw[h];$(if_pos h')
def dW(h:a Z=al (ds,Z1))(h':ds.length<=c6):xj a Z=al (.U ds,Z1):=by$$(xj);rw[h];$(if_pos h')
def ki{n c:Dat}(h:f Z=al (c,Z1))(h1:g Z1=al (n,Z2))(h2:cT c n=al d):uF f g Z=al (d,Z2):=by simp![uF]
def aY{i:Nat}{j n c:Dat}(h0:(Z[i]?).bind iE=al j)(h1:g Z=al (n,Z1))(h:(Z1[i]?).bind iE=al c)(h2:cT c n=al d):nB i g Z=al (d,Z1):=by simp![nB]
def iX{i n:Nat}{c:Dat}(h0:(Z[i]?).bind iE=al c)(h:eQ c=al n):rJ i Z=al (.int n,Z):=by simp![rJ]
def Co(h:e Z=al (r,Z1)):mm e Z=al (.ret r Z1):=by simp![mm]
def sh (h:e Z=al (r,Z1))(h':mj i r Z1=al Z2):jx i e Z=al (.next Z2):=by simp![jx]
def xM(h:f Z=al (d,Z1)):m9 f Z=al (.next Z1):=by simp![m9]
def fh (h:F Z=al x):alt F G Z=al x:=by$$(alt);rw[h]
def JE{o1 o2:Dat->Dat->Option Res}(i:f Z=al (x,Z1))(j:g Z1=al (y,Z2))(k:o1 x y=al (.D<|.bl b))(hh:h Z2=al (z,Z2))(h2:o2 y z=al (.D<|.bl b')):kd o1 o2 f g h Z=al (.bl<|b&&b',Z2):=by
 $$(kd);simp?[i];show(g Z1).bind _=_;rw[j];simp?[mv,k];$$$b
 .rfl
 simp!
def Td{o1 o2:Dat->Dat->Option Res}(hh:kd o1 o2 f g h Z=al (.bl b,Z1)):su o1 o2 f g h Z=al (b,Z1):=by$$(su);rw[hh];rfl
def ke{C:Int->Int->Bool}{g:Int->Int->Dat}(h:C i j=bi):fP C g (.int i) (.int j)=al (.D<|g i j):=if_pos h
def v_eq (h:bU x=bi)(h':bU y=bi):dN false x y=al (.D<|.bl<|dm x y):=by$$(dN);rw[h,h'];rfl
def rB (h:bU x=bi)(h':bU y=bi):dN true x y=al (.D<|.bl<|!dm x y):=by$$(dN);rw[h,h'];rfl
def Ie (h:x.length+y.length<=c6):gN (.str x) (.str y)=al (.D<|.str<|x++y):=if_pos h
def pU (h:x.length+y.length<=c6):gN (.L x) (.L y)=al (.O<|.L<|x++y):=if_pos h
def EJ (h:a Z=al (ds,Z1))(h':ds.length<=c6):qQ C a Z=al (.exc C Z1):=by$$(qQ);rw[h];$(if_pos h')
def CW (h:f Z=al (d,Z1))(h0:(Z1[i]?).bind ownOf=al m)(h1:l Z1=al (.str k,Z2))(h2:(Z2[i]?).bind ownOf=al (b,.bK j))(h3:j.length<c6)(h4:Z2.set i (kindAt b<|.bK<|lB j k d)=Z3):qG i l f Z=al (.next Z3):=by simp![qG]
def qd (h:F Z=am)(h':G Z=al x):alt F G Z=al x:=by simp![alt]
def Aw (h:s (eJ n ds)=al (.ret r Z)):jg n s ds=al r:=by$$(jg);rw[h];rfl
def Bi (h:s (jE n j i ds)=al (.ret r Z))(h':Z[j]?=al (.io k)):o9 n j s i ds=al (r,k):=by simp![o9]
def wU (h:f Z=al (d,Z1))(h0:(Z1[i]?).bind ownOf=al m)(h1:l Z1=al (.int k,Z2))(h2:(Z2[i]?).bind ownOf=al (b,.L xs))(h3:iC xs.length k=al j)(h4:Z2.set i (kindAt b<|.L<|xs.set j d)=Z3):nJ i l f Z=al (.next Z3):=by simp![nJ]
def JR (h:f Z=al (d,Z1))(h0:(Z1[i]?).bind ownOf=al m)(n:j Z1=al (.str k,Z2))(p:(Z2[i]?).bind ownOf=al (b,.bK l))(q:l.length<c6)(t:Z2.set i (kindAt b<|.bK<|lB l k d)=Z3):alt (nJ i j f) (qG i j f) Z=al (.next Z3):=by$(qd ?_<|CW h h0 n p q t);simp![nJ]
def Jd:dN false (.int i) (.int j)=al (.D<|.bl<|bd<|i=j):=by rw[v_eq l8 l8,jU]
def wQ (h:sj i=bi)(h':sj j=bi):dN false (.str i) (.str j)=al (.D<|.bl<|bd<|i=j):=by rw[v_eq (mz h) (mz h'),my]
theorem BZ{g:GF}{fc:BF}{fe:DF}(I:Nat->List Dat->DS->Prop):∀(xs:List Dat) (n:Nat) (i:List Dat) (Z:DS),I n i Z->i.length+xs.length<=c6 ->
  (∀(k:Nat) (x:Dat),xs[k]?=al x->∀i Z,I (n+k) i Z->∃Z1 b Z2,g x Z=al Z1/\fc Z1=al (b,Z2)/\((b=bn/\noOwn Z2=bi/\I (n+k+1) i Z2)\/∃d Z3,b=bi/\fe Z2=al (d,Z3)/\noOwn Z3=bi/\I (n+k+1) (i++[d]) Z3)) ->
  ∃l m,I (n+xs.length) l m/\compLoop g fc fe xs i Z=al (l,m)
 |[],n,i,Z,h,_,_=>⟨i,Z,h,ρ⟩
 | x::xs,n,i,Z,h,hz,k=>by
  let v:∀(j:Nat) (y:Dat),xs[j]?=al y->∀i Z,I (n+1+j) i Z->∃Z1 b Z2,g y Z=al Z1/\fc Z1=al (b,Z2)/\((b=bn/\noOwn Z2=bi/\I (n+1+j+1) i Z2)\/∃d Z3,b=bi/\fe Z2=al (d,Z3)/\noOwn Z3=bi/\I (n+1+j+1) (i++[d]) Z3):=λj y B i Z C=>by let:=k (j+1) y B i Z (by rw[show n+(j+1)=n+1+j from by lia];$C);rw[show n+(j+1)+1=n+1+j+1 from by lia]at this;$this
  let w:n+(x::xs).length=n+1+xs.length:=by simp?[g8];lia
  let(Z1,b,Z2,z,A,D):=k 0 x ρ i Z h;let(rfl,p,q)||(d,Z3,rfl,E,p,q):=D
  .let(l,m,t,u):=BZ I xs (n+1) i Z2 q ∅ v;$({l,m,w ▸ t,?_});show(g x Z).bind _=_;simp[z];rw[A];show(if noOwn Z2=bi then compLoop g fc fe xs i Z2 else am)=_;rw[if_pos p];$u
  let(l,m,t,u):=BZ I xs (n+1) (i++[d]) Z3 q (by rw[eR];simp;$_) v;$({l,m,w ▸ t,?_});show(g x Z).bind _=_;simp[z];rw[A];show(fe Z2).bind _=_;rw[E];show(if i.length<c6/\noOwn Z3=bi then _ else am)=_;rw[if_pos {∅,p}];$u
end
structure yQ (K:f') (mg:eS->Option cm) (x:eS) (C:dn):Prop where
 at_:mg x=al (.ref C)
 is:∃(B newId initId:String) (bmB:List cm),afB B newId initId bmB/\aep K C bmB newId=bi
section
variable{X:Cx}{pos:u1}{e:hF}
def Xk (h:yQ X.K X.mg x C)(c:X.A.handled=am)(j:Gl X x)(k:DA X (e::b) fa)(d:bz x)(l:bD X e b)(f:(T' a<|km b X.env).any (·.1)=bn) :
  cw X (.Raise (al<|.Call (.Name x g) (e::b) [] a) am pos) (qQ C fa):=by
 let(B,n,i,bm,F,m):=h.is;$(SV F m c j h.at_ k d l f)
def T5 (h:s (eJ n ds)=al (.ret r Z)):jd n s ds=al (.ok r):=by$$(jd);rw[h];rfl
def VT (h:s (eJ n ds)=al (.exc C Z)):jd n s ds=al (.exc C):=by$$(jd);rw[h];rfl
def KO (h:s (eJ n ds)=al (.next Z)):jd n s ds=al (.ok<|.D .aG):=by$$(jd);rw[h];rfl
end
def WS(s:SF)(Z:DS)(Q:Out->Prop):Prop:=∃o,s Z=al o/\Q o
def AQ(g:SF)(Q:Out->Prop):Out->Prop
 |.next Z=>WS g Z Q
 |.ret r Z=>Q (.ret r Z)
 |.brk Z=>Q (.brk Z)
 |.cont Z=>Q (.cont Z)
 |.exc C Z=>Q<|.exc C Z
def WB(c:BF)(Z:DS)(Q:Bool->DS->Prop):Prop:=∃b Z1,c Z=al (b,Z1)/\Q b Z1
section
variable{f g:DF}{e:EF}{c c':BF}{s s':SF}{a:AF}{Z Z1 Z2 Z3:DS}{d d':Dat}{ds:List Dat}{r:Res}{b b':Bool}{Q:Out->Prop}{P:hZ}{w:nL}{K:f'}{mg:eS->Option cm}{base:nk}
def WS.mono (h:WS s Z Q)(k:∀o,Q o->i o):WS s Z i:={h.choose,h.choose_spec.1,k _ h.choose_spec.2}
def TL (h:s Z=al o)(q:Q o):WS s Z Q:=⟨o,h,q⟩
theorem ah{g:SF}(h:WS s Z (AQ g Q)):WS (lx s g) Z Q:=by
 let(o,e,q):=h;cases o with
 |next Z1=>let(o2,i,j):=q;$({o2,by rw[v_after,e];$i,j})
 |ret r Z1=>$({_,by rw[v_after,e];rfl,q})
 |brk Z1=>$({_,by rw[v_after,e];rfl,q})
 |cont Z1=>$({_,by rw[v_after,e];rfl,q})
 |exc C Z1=>$({_,by rw[v_after,e];rfl,q})
def aP(q:Q (.next Z)):WS vL Z Q:={_,ρ,q}
def aq{g:SF}(h:WS g Z Q):AQ g Q (.next Z):=h
def eB{g:SF}(h:Q (.ret r Z)):AQ g Q (.ret r Z):=h
def aN (h:e Z=al (r,Z1))(h':mj i r Z1=al Z2)(q:Q (.next Z2)):WS (jx i e) Z Q:={_,sh h h',q}
def bY(h:e Z=al (r,Z1))(q:Q (.ret r Z1)):WS (mm e) Z Q:={_,Co h,q}
def gn(h:f Z=al (d,Z1))(q:Q (.next Z1)):WS (m9 f) Z Q:={_,xM h,q}
def nP(h:WB c Z λb Z1=>(b=bi->WS s Z1 Q)/\(b=bn->WS s' Z1 Q)):WS (kj c s s') Z Q:=by
 let(b,Z1,e,j,k):=h;$$$b
 .let(o,i,q):=k ρ;$({o,BQ e i,q})
 let(o,i,q):=j ρ;$({o,BQ e i,q})
def eI(h:c Z=al (b,Z1))(t:b=bi->WS s Z1 Q)(n:b=bn->WS s' Z1 Q):WS (kj c s s') Z Q:=nP ⟨b,Z1,h,t,n⟩
def wd{Q:Bool->DS->Prop}(h:c Z=al (b,Z1))(q:Q b Z1):WB c Z Q:=⟨b,Z1,h,q⟩
def C8{Q:Bool->DS->Prop}(h:WB c Z λb Z1=>(b=bi->WB c' Z1 Q)/\(b=bn->Q false Z1)):WB (oQ c c') Z Q:=by
 let(b,Z1,e,i,j):=h;$$$b
 .$({false,Z1,v_and e ρ,j ρ})
 let(b',Z2,k,q):=i ρ;$({b',Z2,v_and e k,q})
def yE{Q:Bool->DS->Prop}(h:WB c Z λb Z1=>Q (!b) Z1):WB (pV c) Z Q:=by let(b,Z1,e,q):=h;$({!b,Z1,i9 e,q})
def Ka (h:a Z=al (ds,Z1))(h':ds.length<=c6)(q:Q (.exc C Z1)):WS (qQ C a) Z Q:={_,EJ h h',q}
def Cm(Q:Out->Prop):Out->Prop
 |.exc _ _=>False
 |.next Z=>Q (.next Z)
 |.ret r Z=>Q (.ret r Z)
 |.brk Z=>Q (.brk Z)
 |.cont Z=>Q<|.cont Z
theorem tN(h:WS s Z (Cm Q)):WS (wt s) Z Q:=by
 let(o,e,q):=h;dsimp[WS,wt];rw[e];cases o with
 |exc C Z1=>$q.elim
 |_=>$({_,ρ,q})
def zA(N:DS->Prop)(Q:Out->Prop):Out->Prop
 |.next Z=>N Z
 |.cont Z=>N Z
 |.brk Z=>Q (.next Z)
 |.ret r Z=>Q (.ret r Z)
 |.exc _ _=>False
theorem DU{g:GF}{fb:SF}{Q:Out->Prop}(I:Nat->DS->Prop):∀(xs:List Dat) (n:Nat) (Z:DS),I n Z->(∀(k:Nat) (x:Dat),xs[k]?=al x->∀Z,I (n+k) Z->∃Z1,g x Z=al Z1/\WS fb Z1 (zA (I<|n+k+1) Q)) ->
  (∀Z,I (n+xs.length) Z->Q (.next Z))->WS (forLoop g fb xs) Z Q
 |[],n,Z,h,_,i=>{_,ρ,i Z h}
 | x::xs,n,Z,h,k,i=>by
  let(Z1,m,o,p,q):=k 0 x ρ Z h;let go:∀Z2,I (n+0+1) Z2->WS (forLoop g fb xs) Z2 Q:=λZ2 t=>DU I xs (n+1) Z2 t (λj y u Z v=>by
   let:=k (j+1) y u Z (by rw[show n+(j+1)=n+1+j from by lia];$v);rw[show n+(j+1)+1=n+1+j+1 from by lia]at this
   $this)<|λZ hd=>i Z (by simp?[g8,show n+(xs.length+1)=n+1+xs.length from by lia];$hd)
  let hh:∀l,fb Z1=al l->forLoop g fb (x::xs) Z=match l with
   |.next Z2=>forLoop g fb xs Z2
   |.cont Z2=>forLoop g fb xs Z2
   |.brk Z2=>al (.next Z2)
   |.ret r Z2=>al (.ret r Z2)
   |.exc _ _=>am:=λl z=>by
   show(g x Z).bind _=_;rw[m];show(fb Z1).bind _=_;rw[z];$$$l<;>rfl
  let hh:=hh o p;delta WS;cases o with
  |next Z2=>rw[hh];$(go Z2 q)
  |cont Z2=>rw[hh];$(go Z2 q)
  |brk Z2=>rw[hh];$({_,ρ,q})
  |ret r Z2=>rw[hh];$({_,ρ,q})
  |exc C Z2=>$q.elim
def dD{fi:IF}{g:GF}{fb:SF}(I:Nat->DS->Prop)(h:fi Z=al (ds,Z1))(h0:I 0 Z1)(st:∀(k:Nat) (x:Dat),ds[k]?=al x->∀Z,I k Z->∃Z1,g x Z=al Z1/\WS fb Z1 (zA (I<|k+1) Q))
 (i:∀Z,I ds.length Z->Q (.next Z)):WS (qV fi g fb) Z Q:=by
 let:=DU I ds 0 Z1 h0 (λk x l Z j=>by
  let(Z1,m,w):=st k x l Z (by rw[aaS]at j;$j)
  $({Z1,m,by rw[aaS];$w}))<|λZ hd=>i Z (by rw[aaS]at hd;$hd)
 let(o,e,q):=this;$({o,(λh h'=>by$$(qV);rw[h];$h') h e,q})
def PB {P:si->Prop}(h:WS s (eJ n ds) λo=>(∃r Z,o=.ret r Z/\P (.ok r))\/(∃C Z,o=.exc C Z/\P (.exc C))\/∃Z,o=.next Z/\P (.ok<|.D .aG)):∃r,jd n s ds=al r/\P r:=by
 let(o,e,h):=h;let(r,Z,rfl,p)||(C,Z,rfl,p)||(Z,rfl,p):=h
 .$({_,T5 e,p})
 .$({_,VT e,p})
 $({_,KO e,p})
def J6{caps:List (Option Nat)}{fi:IF}{g:GF}{fc:BF}{fe:DF}{out:List Dat}{i:DS}(h:fi Z=al (ds,Z1))(hf:bA am caps Z1=Z2)(hl:compLoop g fc fe ds [] (cz caps Z2)=al (out,i)):fD caps am fi g fc fe Z=al (.O<|.L out,Z2):=by simp![fD]
def NG{caps:List (Option Nat)}{k j:Nat}{fi:IF}{g:GF}{fc:BF}{fe:DF}{out:List Dat}{i:DS}{l m:Dat}(h:fi Z=al (ds,Z1))(hf:bA (al (k,j)) caps Z1=Z2)(hc:caps[k]?=al (al j))(hj:Z2[j]?=al (.io l))
 (hl:compLoop g fc fe ds [] ((cz caps Z2).set k (.io l))=al (out,i))(hk:i[k]?=al (.io m))(h3:Z2.set j (.io m)=Z3):fD caps (al (k,j)) fi g fc fe Z=al (.O<|.L out,Z3):=by
 simp![fD]
theorem GP{g:GF}{fc:BF}{fe:DF}{n:DS}(put:Dat->DS)(keep:Dat->Bool)(val:Dat->Dat):∀(xs:List Dat) (h:List Dat) (Z:DS),h.length+xs.length<=c6 ->
  (∀x∈xs,∀Z,(Z=n\/∃y,Z=put y)->g x Z=al (put x))->(∀x∈xs,fc (put x)=al (keep x,put x))->(∀x∈xs,keep x=bi->fe (put x)=al (val x,put x))->(∀x∈xs,noOwn (put x)=bi)->(Z=n\/∃y,Z=put y) ->
  ∃l,compLoop g fc fe xs h Z=al (h++(xs.filter keep).map val,l)
 |[],h,Z,_,_,_,_,_,_=>{Z,by simp[compLoop]}
 | x::xs,h,Z,hz,o,p,q,t,hd=>by
  simp at hz;let v:=o x (fm ..) Z hd;let z:=p x<|fm ..;let A:=t x<|fm ..;let j:=λk (u:k.length+xs.length<=c6)=>GP put keep val xs k (put x) u (λy i=>o y<|fk _ i) (λy i=>p y<|fk _ i) (λy i=>q y<|fk _ i) (λy i=>t y<|fk _ i)<|τ ⟨x,ρ⟩;cases m:keep x with
  |false=>let(l,e):=j h ∅;simp![compLoop]
  |true=>let(l,e):=j (h++[val x]) (by rw[eR];simp;$_);$({l,?_});show(g x Z).bind _=_;rw[v];show(fc<|put x).bind _=_;rw[z,m];show(fe<|put x).bind _=_;rw[q x (fm ..) m];show(if h.length<c6/\noOwn (put x)=bi then _ else am)=_;rw[if_pos {∅,A},e,zb,m];simp
def WE(e:EF)(Z:DS)(Q:Res->DS->Prop):Prop:=∃r Z1,e Z=al (r,Z1)/\Q r Z1
def WD(f:DF)(Z:DS)(Q:Dat->DS->Prop):Prop:=∃d Z1,f Z=al (d,Z1)/\Q d Z1
def WA(a:AF)(Z:DS)(Q:List Dat->DS->Prop):Prop:=∃ds Z1,a Z=al (ds,Z1)/\Q ds Z1
def il{Q:Res->DS->Prop}(h:e Z=al (r,Z1))(q:Q r Z1):WE e Z Q:=⟨r,Z1,h,q⟩
def Vx{Q:Dat->DS->Prop}(h:f Z=al (d,Z1))(q:Q d Z1):WD f Z Q:=⟨d,Z1,h,q⟩
def mR{Q:Dat->DS->Prop}(h:WE e Z λr Z1=>Q r.val Z1):WD (ic e) Z Q:=by let(r,Z1,i,q):=h;$({_,Z1,ag i ρ,q})
def ue{Q:List Dat->DS->Prop}(q:Q [] Z):WA js Z Q:={_,_,ρ,q}
def tH{Q:List Dat->DS->Prop}(h:WD f Z λd Z1=>WA a Z1 λds Z2=>Q (d::ds) Z2):WA (gz f a) Z Q:=by let(d,Z1,i,ds,Z2,j,q):=h;$({_,Z2,aa i j,q})
def sZ {Q:Res->DS->Prop}(h:WA a Z λds Z1=>∃r,fn ds=al r/\Q r Z1):WE (bT fn a) Z Q:=by let(ds,Z1,i,r,j,q):=h;$({r,Z1,aC i j,q})
def Xx (h:f Z=al (.L ds,Z1))(i:dS ds=al ys)(j:sep.length<=16/\(ys.map (·.length)).sum+ys.length<=1048576):sS sep f Z=al (.str<|acw sep ys,Z1):=by delta sS;simp[h];simp?[i];$(if_pos j)
def yb{Q:Bool->DS->Prop}(h:WE e Z λr Z1=>∃b,r=.D (.bl b)/\Q b Z1):WB (fT e) Z Q:=by let(r,Z1,i,b,rfl,q):=h;$({b,Z1,bL i,q})
def zE{Q:Bool->DS->Prop}(h:WD f Z λd Z1=>∃b,mU d=al b/\Q b Z1):WB (n9 f) Z Q:=by let(d,Z1,i,b,j,q):=h;$({b,Z1,fw i j,q})
def Vb (h:WE e Z λr Z1=>∃Z2,mj i r Z1=al Z2/\Q (.next Z2)):WS (jx i e) Z Q:=by let(r,Z1,j,Z2,k,q):=h;$({_,sh j k,q})
def qu (h:WE e Z λr Z1=>Q<|.ret r Z1):WS (mm e) Z Q:=by let(r,Z1,i,q):=h;$({_,Co i,q})
def Th{caps:List (Option Nat)}{kb j:Nat}{fi:IF}{g:GF}{fc:BF}{fe:DF}{xs:List Dat}{m:Dat}{Q:Res->DS->Prop}(I:Nat->List Dat->DS->Prop)(t:fi Z=al (xs,Z1))(u:bA (al (kb,j)) caps Z1=Z2)(v:caps[kb]?=al (al j))(y:Z2[j]?=al (.io m))(h0:I 0 [] ((cz caps Z2).set kb (.io m)))(hz:xs.length<=c6)
 (st:∀(k:Nat) (x:Dat),xs[k]?=al x->∀h Z,I k h Z->∃Z1,g x Z=al Z1/\WB fc Z1 λb Z2=>(b=bn->noOwn Z2=bi/\I (k+1) h Z2)/\(b=bi->WD fe Z2 λd Z3=>noOwn Z3=bi/\I (k+1) (h++[d]) Z3))
 (n:∀h Z,I xs.length h Z->∃l,Z[kb]?=al (.io l)/\Q (.O<|.L h) (Z2.set j<|.io l)):WE (fD caps (al (kb,j)) fi g fc fe) Z Q:=by
 let(h,z,o,A):=BZ I xs 0 [] _ h0 (by$$$$hz) (λk x B h Z i=>by
  rw[aaS]at i ⊢;let(Z1,C,b,Z2,D,p,E):=st k x B h Z i;$({Z1,b,Z2,C,D,?_});$$$b
  .$(ι {ρ,(p ρ).1,(p ρ).2})
  let(d,Z3,F,G,H):=E ρ;$(τ ⟨d,Z3,ρ,F,G,H⟩))
 rw[aaS]at o;let(l,i,q):=n h z o;$({_,_,NG t u v y A i ρ,q})
def gy (n:Nat)(f:List h->Option i):List h->Option i:=λds=>if ds.length=n then f ds else am
def yI{i j:Type}{n:Nat}{f:List i->Option j}{ds:List i}(h:ds.length=n):gy n f ds=f ds:=if_pos h
def bX{x h:eS}{st:aas}{f:dn}{m:hO}{N j:List eS}{k n:Nat}{fb:SF}{Spec:aS->Prop}(F:bb K x h st f m)(S:br N j (aQ st))(hn:j.length=n)
 (o:∀(i:cm) (A:ow) (outer:List Env) (s:cA) (H:Hp) (E:XK),cF k (A.deeper<|abw h (aQ st) s.heap.objs.size f i)->gS (eV bc P w K mg base N h (aQ st) f i A outer s H E).jt (g9 st) fb)
 (l:Spec (gy n<|jg N.length fb)):∃fn,aV P w K mg base bc (k+1) f m j (aF K fn)/\Spec fn:=by
 $({_,DJ F S ?_ o ?_,l});simp![gy];simp[gy]
def r8{x h:eS}{st:aas}{f:dn}{o:hO}{N l:List eS}{k n j:Nat}{fb:SF}{Spec:fq->Prop}(F:bb K x h st f o)(S:br N l (aQ st))(hn:l.length=n+1)
 (p:∀(i:cm) (A:ow) (outer:List Env) (s:cA) (H:Hp) (E:XK),cF k (A.deeper<|abw h (aQ st) s.heap.objs.size f i)->gS (eV bc P w K mg base N h (aQ st) f i A outer s H E).jt (g9 st) fb)
 (m:Spec (λc=>gy n<|o9 N.length j fb c)):∃fn,aV P w K mg base bc (k+1) f o l (fR K j fn)/\Spec fn:=by
 $({_,Ws F S ?_ p ?_,m});simp![gy];simp[gy]
def Rz{x i:eS}{st:aas}{f:dn}{o:hO}{N l:List eS}{k n:Nat}{fb:SF}{Spec:kZ->Prop}(F:bb K x i st f o)(S:br N l (aQ st))(p:l.length=n)
 (q:∀(j:cm) (A:ow) (outer:List Env) (s:cA) (H:Hp) (E:XK),cF k (A.deeper<|abw i (aQ st) s.heap.objs.size f j)->gS (eV (fU P w) P w K mg base N i (aQ st) f j A outer s H E) (g9 st) fb)
 (m:Spec (gy n<|jd N.length fb)):∃fn,aV P w K mg base (fU P w) (k+1) f o l (pC K fn)/\Spec fn:=by
 refine{_,Xg F S ?_ q ?_,m}
 .ext ds r h;unfold gy at h;$$$$$h
  .ext1 e;simp?[e,p]
  exact nO h
 ext ds r h;unfold gy at h;$$$$$h
 .exact h
 exact nO h
def AR {P:Res->Prop}(i:ds.length=m)(h:WS s (eJ n ds) λo=>∃r Z,o=.ret r Z/\P r):∃r,gy m (jg n s) ds=al r/\P r:=by rw[yI i];$((λh=>by let(o,e,r,Z,rfl,p):=h;$({r,Aw e,p})) h)
def wj {P:Res->Dat->Prop}(l:ds.length=m)(h:WS s (jE n j k ds) λo=>∃r Z i,o=.ret r Z/\Z[j]?=al (.io i)/\P r i):∃r i,gy m (o9 n j s k) ds=al (r,i)/\P r i:=by rw[yI l];$((λh=>by let(o,e,r,Z,i,rfl,h,p):=h;$({r,i,Bi e h,p})) h)
def Wf {P:si->Prop}(i:ds.length=m)(h:WS s (eJ n ds) λo=>(∃r Z,o=.ret r Z/\P (.ok r))\/(∃C Z,o=.exc C Z/\P (.exc C))\/∃Z,o=.next Z/\P (.ok<|.D .aG)):∃r,gy m (jd n s) ds=al r/\P r:=by rw[yI i];$(PB h)
def cE (j:ds.length=m)(h:WS s (eJ n ds) λo=>∃Z,o=.ret r Z):gy m (jg n s) ds=al r:=by let(i,e,z):=AR j (h.mono λo ⟨Z,e⟩=>⟨r,Z,e,ρ⟩);rw[e,z]
def K4{n m:Nat}{s:SF}{ds:List Dat}{a:si}(j:ds.length=m)(h:WS s (eJ n ds) λo=>(∃r Z,o=.ret r Z/\a=.ok r)\/(∃C Z,o=.exc C Z/\a=.exc C)):gy m (jd n s) ds=al a:=by
 let(i,e,z):=Wf (P:=λi=>i=a) j (h.mono λo h=>by
  let(r,Z,e,rfl)||(C,Z,e,rfl):=h
  .$(ι ⟨r,Z,e,ρ⟩)
  $(τ<|ι ⟨C,Z,e,ρ⟩))
 rw[e,z]
def AZ{caps:List (Option Nat)}{fi:IF}{g:GF}{fc:BF}{fe:DF}{xs:List Dat}(put:Dat->DS)(keep:Dat->Bool)(val:Dat->Dat)(h:fi Z=al (xs,Z1))(i:bA am caps Z1=Z2)(hz:xs.length<=c6)
 (j:∀x∈xs,∀Z,(Z=cz caps Z2\/∃y,Z=put y)->g x Z=al (put x))(k:∀x∈xs,fc (put x)=al (keep x,put x))(l:∀x∈xs,keep x=bi->fe (put x)=al (val x,put x))(m:∀x∈xs,noOwn (put x)=bi) :
  fD caps am fi g fc fe Z=al (.O<|.L<|(xs.filter keep).map val,Z2):=by
 let(Z',e):=GP put keep val xs [] (cz caps Z2) (by$$$$hz) j k l m<|ι ρ;$(J6 h i e)
def N4 (h:f Z=al (.str x,Z1))(i:x.cps.all (·<128)=bi):alt (j8 f) (lK f) Z=al (x.cps.toList.map λc=>.str ⟨#[c]⟩,Z1):=by$(qd ?_<|(λh i=>by delta lK;rw[h];$(if_pos i)) h i);delta j8;rw[h];rfl
def bP(h:f Z=al (.L ds,Z1)):alt (j8 f) (lK f) Z=al (ds,Z1):=by apply fh;delta j8;rw[h];rfl
theorem sG (f):∀cs:List h,jN (cs.map λc=>.bl<|f c)=al (cs.map f)
 |[]=>rfl
 |c::cs=>by simp?[hH,jN,sG f cs];rfl
end
def gK (h:b=b'):∃a,Out.ret (.D<|.bl b) Z=.ret (.D<|.bl b') a:={Z,by rw[h]}
theorem vN{Q:Out->Prop}{Z:DS}(h:Q (.next Z)):Cm Q (.next Z):=h
theorem JH{Q:Out->Prop}{r:Res}{Z:DS}(h:Q (.ret r Z)):Cm Q (.ret r Z):=h
def AJ (h:(sj x&&sj y&&(bd (x=y)==b))=bi):dN false (.str x) (.str y)=al (.D<|.bl b):=by simp![wQ]
def wc (h:a Z=al ([.int n],Z1))(b:-(2 ^ 62)<=n/\n<2 ^ 62):uD a Z=al (eM 0 n,Z1):=by delta uD;rw[h];$(if_pos b)
structure Ob where
 l:Int
 b:Int
 r:Int
 t:Int
deriving DecidableEq
def Ob.ok(x:Ob):Prop:=x.l<x.r/\x.b<x.t
def Ob.area(x:Ob):Int:=(x.r-x.l)*(x.t-x.b)
def Apart(x y:Ob):Prop:=x.r<=y.l\/y.r<=x.l\/x.t<=y.b\/y.t<=x.b
def qN(i j:Int):Int:=if j<i then j else i
def imax(i j:Int):Int:=if j>i then j else i
def Apart.symm (h:Apart x y):Apart y x:=by grind [Apart]
section
variable{α:Type}[DecidableEq α]
abbrev Vn(α):=List<|α×Ob
end
def sm:Nat->(Nat->Nat)->Nat
 |0,_=>0
 |n+1,f=>sm n f+f n
theorem J2(f g):∀n,sm n (λi=>f i+g i)=sm n f+sm n g
 |0=>rfl
 |n+1=>by show sm n (λi=>f i+g i)+(f n+g n)=_;rw[J2 f g n];show _=(sm n f+f n)+(sm n g+g n);lia
theorem Aj:∀{n},(∀i,i<n->f i<=g i)->sm n f<=sm n g
 |0,_=>eT _
 |n+1,h=>Nat.add_le_add (Aj λi hi=>h i (by lia))<|h n ⋯
theorem Ae:∀{n},(∀i,i<n->f i<=g i)->∀k,k<n->f k<g k->sm n f<sm n g
 |0,_,k,a,_=>by lia
 | n+1,h,k,a,hl=>by
  show sm n f+f n<sm n g+g n;ext(e:k=n)
  .$$e;let:=Aj (n:=k) λi b=>h i (by lia);lia
  let:=Ae (n:=n) (λi b=>h i (by lia)) k (by lia) hl;let:=h n ⋯;lia
theorem Cu(c):∀n,sm n (λ_=>c)=n*c
 |0=>by simp[sm]
 |n+1=>by show sm n _+c=_;simp?[Cu c n,abV]
def CV:∀n,sm n (λ_=>0)=0:=λn=>by rw[Cu];simp
theorem Ik(a b c)(h:a<=b):∀n,b<=n->sm n (λi=>if a<=i/\i<b then c else 0)=(b-a)*c:=by
 let f:∀n,n<=a->sm n (λi=>if a<=i/\i<b then c else 0)=0:=λn=>by
  induction n with
  |zero=>ext _;rfl
  |succ n d=>ext g;show sm n _+(if a<=n/\n<b then c else 0)=0;rw[d ∅,if_neg ∅]
 let mid:∀n,a<=n->n<=b->sm n (λi=>if a<=i/\i<b then c else 0)=(n-a)*c:=λn=>by
  induction n with
  |zero=>simp[sm]
  |succ n d =>
   ext h1 h2;show sm n _+(if a<=n/\n<b then c else 0)=_;ext(e:a=n+1)
   .rw[f n ∅,if_neg ∅,e];simp
   rw[d (by lia) (by lia),if_pos (by lia),show n+1-a=(n-a)+1 by lia,abV]
 ext n;induction n with
 |zero=>ext g;simp!
 |succ n d=>ext g;ext(e:b=n+1);simp!;show sm n _+(if a<=n/\n<b then c else 0)=_;rw[d (by lia),if_neg (by lia),Nat.add_zero]
def jA(o:Ob)(x y:Nat):Bool:=bd (o.l<=(x:Int))&&bd ((x:Int)<o.r)&&bd (o.b<=(y:Int))&&bd ((y:Int)<o.t)
theorem sI{o:Ob}{x y:Nat}:jA o x y=bi↔o.l<=(x:Int)/\(x:Int)<o.r/\o.b<=(y:Int)/\(y:Int)<o.t:=by delta jA;simp;constructor;simp!;simp!
def kK(os:List Ob)(x y:Nat):Nat:=os.countP λo=>jA o x y
def iM(W H:Nat)(f:Nat->Nat->Nat):Nat:=sm W λx=>sm H λy=>f x y
def Li(W H)(f g):iM W H (λx y=>f x y+g x y)=iM W H f+iM W H g:=by simp[iM,J2]
def Lq{W H:Nat}{o:Ob}(h1:0<=o.l)(h2:o.l<o.r)(h3:o.r<=W)(h4:0<=o.b)(h5:o.b<o.t)(h6:o.t<=H):(iM W H (λx y=>if jA o x y=bi then 1 else 0):Int)=o.area:=by
 let e:∀x:Nat,sm H (λy=>if jA o x y=bi then 1 else 0)=if o.l.toNat<=x/\x<o.r.toNat then o.t.toNat-o.b.toNat else 0:=λx=>by
  ext(a:o.l.toNat<=x/\x<o.r.toNat)
  .rw[if_pos a];let c:(λy=>if jA o x y=bi then 1 else 0)=λy=>if o.b.toNat<=y/\y<o.t.toNat then 1 else 0:=by simp![sI]
   rw[c,Ik _ _ _ (by lia) H (by lia),Nat.mul_one]
  rw[if_neg a];let c:(λy=>if jA o x y=bi then 1 else 0)=λ_=>0:=by funext y;rw[if_neg (λz=>a (by let:=sI.1 z;$_))]
  rw[c,CV]
 dsimp[iM];rw[show(λx=>sm H<|λy=>if jA o x y=bi then 1 else 0)=λx=>if o.l.toNat<=x/\x<o.r.toNat then o.t.toNat-o.b.toNat else 0 from funext e,Ik _ _ _ (by lia) W (by lia)];simp;congr 1<;>lia
structure Within (W H:Nat) (o:Ob):Prop where
 l:0<=o.l
 w:o.l<o.r
 r:o.r<=W
 b:0<=o.b
 h:o.b<o.t
 t:o.t<=H
theorem Ig:∀{os:List Ob},(∀o∈os,Within W H o)->(iM W H (kK os):Int)=(os.map Ob.area).sum
 |[],_=>by let:kK []=λ_ _=>0:=ρ;simp![iM,CV]
 | o::os,h=>by
  let e:kK (o::os)=λx y=>(if jA o x y=bi then 1 else 0)+kK os x y:=by funext x y;$$(kK);simp[ma];lia
  let ho:=h o ⋯;rw[e,Li,Int.natCast_add,Lq ho.l ho.w ho.r ho.b ho.h ho.t,Ig λp a=>h p (by simp[a])];simp
theorem DN{os:List Ob}(ap:os.Pairwise Apart)(x y:Nat):kK os x y<=1:=by
 delta kK;induction os with
 |nil=>simp
 |cons o os b =>
  rw[Rg]at ap;rw[ma];ext(h:jA o x y=bi)
  .rw[if_pos h];let:os.countP (λo=>jA o x y)=0:=by rw[LS];ext p c d;let a:=ap.1 p c;let:=sI.1 h;let:=sI.1 d;unfold Apart at a;$_
   lia
  rw[if_neg h];$(b ap.2)
def filled{W H:Nat}{os:List Ob}(a:∀o∈os,Within W H o)(ap:os.Pairwise Apart)(ar:(os.map Ob.area).sum=(W:Int)*H){x y:Int}(hx:0<=x)(hx':x<W)(hy:0<=y)(hy':y<H) :
  ∃o∈os,o.l<=x/\x<o.r/\o.b<=y/\y<o.t:=by
 $(r4 λno=>?_);let e0:kK os x.toNat y.toNat=0:=by grind [kK,sI]
 let g:=Ig a;let lt:iM W H (kK os)<iM W H (λ_ _=>1):=by$(Ae (λi _=>Aj λj _=>DN ap i j) x.toNat (by lia)<|Ae (λj _=>DN ap _ j) y.toNat (by lia) ?_);simp!
 let one:iM W H (λ_ _=>1)=W*H:=by simp[iM,Cu]
 lia
theorem sg{a:Type}{q:a->Bool}{R:a->a->Prop}(h:∀x y,q x=bi->q y=bi->¬R x y):∀{l:List a},l.Pairwise R->l.countP q<=1
 |[],_=>⋯
 | x::l,p=>by
  rw[Rg]at p;rw[ma];ext(b:q x=bi)
  .rw[if_pos b];let:l.countP q=0:=by rw[LS];$(λy c d=>h x y b d<|p.1 y c)
   lia
  rw[if_neg b];$(sg h p.2)
def dy(o:Ob):List (Int×Int):=[(o.l,o.b),(o.l,o.t),(o.r,o.b),(o.r,o.t)]
def dA(os:List Ob):List (Int×Int):=os.flatMap dy
theorem MF{os:List Ob}(ok:∀o∈os,o.ok)(ap:os.Pairwise Apart)(p:Int×Int):(dA os).count p<=4:=by
 let a:os.Pairwise λx y=>Apart x y/\x.ok/\y.ok:=by refine aaF (λc d h=>{h,ok _ c,ok _ d}) ap
 let c1:os.countP (λo=>bd<|(o.l,o.b)=p)<=1:=sg (R:=λx y=>Apart x y/\x.ok/\y.ok) (by grind [Apart,Ob.ok]) a;let c2:os.countP (λo=>bd<|(o.l,o.t)=p)<=1:=sg (R:=λx y=>Apart x y/\x.ok/\y.ok) (by grind [Apart,Ob.ok]) a;let c3:os.countP (λo=>bd<|(o.r,o.b)=p)<=1:=sg (R:=λx y=>Apart x y/\x.ok/\y.ok) (by grind [Apart,Ob.ok]) a;let c4:os.countP (λo=>bd<|(o.r,o.t)=p)<=1:=sg (R:=λx y=>Apart x y/\x.ok/\y.ok) (by grind [Apart,Ob.ok]) a;let cp:∀l:List Ob,(dA l).count p=l.countP (λo=>bd<|(o.l,o.b)=p)+l.countP (λo=>bd<|(o.l,o.t)=p)+l.countP (λo=>bd<|(o.r,o.b)=p)+l.countP (λo=>bd<|(o.r,o.t)=p):=λl=>by
  induction l with
  |nil=>rfl
  |cons o l f =>
   let e:(dA (o::l)).count p=(dy o).count p+(dA l).count p:=by simp[dA]
   simp?[e,f,ma,ma,ma];$$(dy);simp[aa8];lia
 rw[cp];lia
structure Cuts (o:Ob) (os:List Ob):Prop where
 aU:∀x∈os,o.l<=x.l/\x.l<x.r/\x.r<=o.r/\o.b<=x.b/\x.b<x.t/\x.t<=o.t
 ap:os.Pairwise Apart
 ar:(os.map Ob.area).sum=o.area
def Cuts.one (h:o.ok):Cuts o [o]:={by simp![Ob.ok],acr _ _,⋯}
def Ac{a:Type}{os:List a}{j:Nat}{x:a}(e:os[j]?=al x):os=os.take j++x::os.drop (j+1):=by let(h,e):=cn.1 e;simp[<-e]
def Cuts.RS{o x:Ob}{os c:List Ob}{j:Nat}(h:Cuts o os)(e:os[j]?=al x)(h':Cuts x c):Cuts o (os.take j++c++os.drop (j+1)):=by
 let ho:=Ac e;generalize os.take j=A at *;generalize os.drop (j+1)=B at *;$$ho;let(f,i,l):=h;let(g,m,n):=h';rw[aaK,Rg]at i;let(p,(k,q),d):=i;$({λy b=>?_,?_,?_})
 .let b||b:=eK.1 b
  .let b||b:=eK.1 b
   .$(f y (by simp[b]))
   let:=f x ⋯;let:=g y b;$_
  $(f y (by simp[b]))
 .rw[aaK,aaK];$({{p,m,λy b z hz=>?_},q,λy b z hz=>?_})
  .let a:=d y b x ⋯;let:=g z hz;unfold Apart at *;$_
  let b||b:=eK.1 b
  .$(d y b z (by simp[hz]))
  let a:=k z hz;let:=g y b;unfold Apart at *;$_
 simp?[fv,fv,abG,abG,n,<-l,fv,hH,abG,aa5];lia
def Cuts.up (h:o.ok)(h1:o.b<a)(h2:a<o.t):Cuts o [⟨o.l,o.b,o.r,a⟩,⟨o.l,a,o.r,o.t⟩]:=by
 delta Ob.ok at h;$({λx c=>?_,?_,?_})
 .simp at c;let rfl||rfl:=c<;>dsimp<;>lia
 .simp[Apart]
 simp[Ob.area];grind
def Cuts.on (h:o.ok)(h1:o.l<a)(h2:a<o.r):Cuts o [⟨o.l,o.b,a,o.t⟩,⟨a,o.b,o.r,o.t⟩]:=by
 delta Ob.ok at h;$({λx c=>?_,?_,?_})
 .simp at c;let rfl||rfl:=c<;>dsimp<;>lia
 .simp[Apart]
 simp[Ob.area];grind
def Cuts.QV:Cuts {0,0,300,300} [{0,0,200,100},{200,0,300,200},{100,200,300,300},{0,100,100,300},{100,100,200,200}]:=by$({⋯,?_,⋯});delta Apart;decide
theorem Xe{l a:List Int}(p:l.Perm a):l.sum=a.sum:=by
 induction p with
 |nil=>rfl
 |cons x _ ih=>simp!
 |swap x y l=>simp?[aa5];lia
 |trans _ _ i1 i2=>simp!
theorem Cuts.perm{o:Ob}{os b:List Ob}(h:Cuts o os)(p:b.Perm os):Cuts o b :=
 {λx c=>h.aU x<|p.mem_iff.1 c,p.symm.pairwise h.ap λ{x y} a=>by grind [Apart],by rw[Xe (p.map Ob.area)];$h.ar}
def au(o:Ob):Ob:={-o.t,o.l,-o.b,o.r}
def af:Nat->Ob->Ob
 |0,o=>o
 |k+1,o=>au<|af k o
structure aH (bx:Ob) (os:List Ob):Prop where
 aU:∀o∈os,bx.l<=o.l/\o.l<o.r/\o.r<=bx.r/\bx.b<=o.b/\o.b<o.t/\o.t<=bx.t
 ap:∀x∈os,∀y∈os,x=y\/Apart x y
 hit:∀p q,bx.l<=p->p<bx.r->bx.b<=q->q<bx.t->∃o∈os,o.l<=p/\p<o.r/\o.b<=q/\q<o.t
 four:∀x∈os,∀n∈os,∀m∈os,∀z∈os,¬(n.r=x.r/\n.b=x.t/\m.l=x.r/\m.t=x.t/\z.l=x.r/\z.b=x.t)
def wN(a:Ob):Ob:={a.l,a.t,a.r,a.t+1}
def wE(a:Ob):Ob:={a.r,a.b,a.r+1,a.t}
def wS(a:Ob):Ob:={a.l,a.b-1,a.r,a.b}
def wW(a:Ob):Ob:={a.l-1,a.b,a.l,a.t}
def walls(a:Ob):List Ob:=[wN a,wE a,wS a,wW a]
def NP (h:au x=au y):x=y:=by
 $$$x;simp![au]
theorem jo:∀(k:Nat) {x y:Ob},af k x=af k y->x=y
 |0,_,_,h=>h
 |k+1,_,_,h=>jo k<|NP h
def aH.turn{j:Ob}{os:List Ob}(T:aH j os):aH (au j) (os.map au) where
 aU:=λo ho=>by let(x,f,rfl):=ae.1 ho;let:=T.aU x f;simp![au]
 ap:=λa g b i=>by
  let(x,f,rfl):=ae.1 g;let(y,r,rfl):=ae.1 i;let e||e:=T.ap x f y r
  .$(ι (by rw[e]))
  right;unfold Apart at *;simp?[au];lia
 hit:=λp q s t k l=>by simp[au]at s t k l;let(o,ho,k1,k2,k3,k4):=T.hit q (-p-1) k l (by lia) (by lia);$({au o,ae.2 ⟨o,ho,ρ⟩,?_});simp[au];lia
 four:=λa g b i c u d hd h=>by let(x,f,rfl):=ae.1 g;let(n,v,rfl):=ae.1 i;let(m,hm,rfl):=ae.1 u;let(z,hz,rfl):=ae.1 hd;simp[au]at h;$(T.four m hm x f z hz n v (by lia))
def Up(x y:Ob):Prop:=y.b=x.t/\x.l<y.r/\y.l<x.r
instance {x y:Ob}:Decidable (Up x y):=by$$(Up);infer_instance
section
variable{bx:Ob}{os:List Ob}{x y z n m m':Ob}{α:Type}
def lH(hm:m∈walls bx)(i:bx.l<=x.l/\x.l<x.r/\x.r<=bx.r/\bx.b<=x.b/\x.b<x.t/\x.t<=bx.t)(u:Up x m):m=wN bx/\x.t=bx.t:=by
 let(c,i2,d,i4,i5,i6):=i;let(a,e,f):=u;simp[walls]at hm;let rfl||rfl||rfl||rfl:=hm
 .$(⟨ρ,a.symm⟩)
 .$(absurd f<|acL.2 d)
 .$(absurd (show bx.b-1=x.t from a) (by lia))
 $(absurd e<|acL.2 c)
def nq(hm:m∈walls bx)(i:bx.l<=x.l/\x.l<x.r/\x.r<=bx.r/\bx.b<=x.b/\x.b<x.t/\x.t<=bx.t)(u:Up (au x) (au m)):m=wE bx/\x.r=bx.r:=by
 let(i1,i2,i3,c,i5,d):=i;let(a,e,f):=u;simp[walls]at hm;let rfl||rfl||rfl||rfl:=hm
 .$(absurd (ab5.1<|e)<|acL.2 d)
 .$(⟨ρ,a.symm⟩)
 .$(absurd (ab5.1<|f)<|acL.2 c)
 $(absurd (show bx.l-1=x.r from a) (by lia))
def aH.cover(T:aH bx os)(c:x∈os)(d:x.t<bx.t)(h1:x.l<=p)(h2:p<x.r):∃y∈os,Up x y/\y.l<=p/\p<y.r:=by
 let ix:=T.aU x c;let(y,b,k1,k2,k3,k4):=T.hit p x.t ∅ ∅ (by lia) d;$({y,b,?_,k1,k2});delta Up;let rfl||a:=T.ap x c y b
 .lia
 delta Apart at a;lia
def aH.next(T:aH bx os)(d:x∈os)(e:x.t<bx.t)(b:y∈os)(u:Up x y)(h:y.r<x.r):∃z∈os,Up x z/\z.l=y.r:=by
 delta Up at u;obtain⟨z,hz,c,k1,k2⟩:=T.cover d e (by lia) h;$({z,hz,c,?_});let iy:=T.aU y b;let iz:=T.aU z hz;delta Up at c;let rfl||a:=T.ap y b z hz
 .lia
 delta Apart at a;$_
def aH.prev(T:aH bx os)(d:x∈os)(e:x.t<bx.t)(b:y∈os)(u:Up x y)(h:x.l<y.l):∃z∈os,Up x z/\z.r=y.l:=by
 unfold Up at u;let(z,hz,c,k1,k2):=T.cover d e (p:=y.l-1) (by lia) (by lia);$({z,hz,c,?_});let iy:=T.aU y b;let iz:=T.aU z hz;unfold Up at c;let rfl||a:=T.ap y b z hz
 .lia
 grind [Apart]
def aH.tee(T:aH bx os)(c:x∈os)(b:n∈os)(hm:m∈os)(un:Up x n)(en:x.r<=n.r)(d:Up (au x) (au m))(em:x.t<=m.t):(x.r<n.r/\m.t=x.t)\/(n.r=x.r/\x.t<m.t):=by
 let jn:=T.aU n b;let jm:=T.aU m hm;delta Up at un d;simp?[au]at d;let e:Apart n m:=by
  let rfl||a:=T.ap n b m hm
  .omega
  exact a
 delta Apart at e;ext(f:n.r=x.r)
 .ext(g:m.t=x.t)
  .exfalso;let(z,hz,k1,k2,k3,k4):=T.hit x.r x.t ⋯ (by lia) (by lia) (by lia);let h:Apart n z:=by
    let rfl||a:=T.ap n b z hz
    .lia
    exact a
   let i:Apart m z:=by
    let rfl||a:=T.ap m hm z hz
    .lia
    exact a
   delta Apart at h i;$(T.four x c n b m hm z hz {f,un.1,by lia,g,by lia,by lia})
  lia
 lia
def nN(x n m:Ob):Prop:=(Up x n/\Up x m/\n.r=m.l)\/(Up x n/\x.r<=n.r/\Up (au x) (au m)/\x.t<=m.t)
def cS(x n m:Ob):Prop:=∃k,k<4/\nN (af k x) (af k n) (af k m)
def pX(o):au (au<|au<|au o)=o:=by simp[au]
theorem cS.up (h:cS (au x) (au n) (au m)):cS x n m:=by
 let(k,hk,h):=h;let e:∀(k:Nat) (o:Ob),af k (au o)=af (k+1) o:=λk o=>by
  induction k with
  |zero=>rfl
  |succ k ih=>simp![af]
 simp[e]at h;ext(a:k=3)
 .subst a;$({0,⋯,?_});simp![af,pX]
 exact{k+1,by lia,h}
def aH.W1(T:aH bx os)(p:x∈os)(h:nN x n m)(c:n∈os\/n∈walls bx)(hm:m∈os\/m∈walls bx):(n∈os->cS n m x)/\(m∈os->cS m x n):=by
 let i:=T.aU x p;let no:∀{o:Ob},o∈os->o∈walls bx->False:=λ{o} h h'=>by let:=T.aU o h;simp[walls]at h';let rfl||rfl||rfl||rfl:=h'<;>dsimp[wN,wE,wS,wW]at this<;>$_
 let(un,d,e)||(un,q,d,em):=h
 .let f:n∈os:=c.resolve_right λh=>by let(rfl,_):=lH h i un;let:=d.2.2;dsimp[wN]at e;$_
  let g:m∈os:=hm.resolve_right λh=>by let(rfl,_):=lH h i d;let:=un.2.1;dsimp[wN]at e;$_
  let r:=T.aU n f;let s:=T.aU m g;let(u,v,w):=un;let(j,k,l):=d;$({λ_=>{1,⋯,τ ?_},λ_=>{2,⋯,τ ?_}})
  .dsimp[af,au,Up];lia
  dsimp[af,au,Up];lia
 let c||c:=c<;>let hm||hm:=hm
 .let r:=T.aU n c;let s:=T.aU m hm;let t:=T.tee p c hm un q d em;let(u,v,w):=un;let(j,k,l):=d;dsimp[au]at j k l;let(a,b)||(a,b):=t
  .refine{λ_=>{2,⋯,ι ?_},λ_=>{3,⋯,τ ?_}}
   .dsimp[af,au,Up];lia
   dsimp[af,au,Up];lia
  refine{λ_=>{1,⋯,τ ?_},λ_=>{3,⋯,ι ?_}}
  .dsimp[af,au,Up];lia
  dsimp[af,au,Up];lia
 .let r:=T.aU n c;let(rfl,A):=nq hm i d;let(u,v,w):=un;$({λ_=>{1,⋯,τ ?_},λg=>(no g hm).elim});dsimp[af,au,Up,wE]at em ⊢;grind
 .let s:=T.aU m hm;let(rfl,A):=lH c i un;let(j,k,l):=d;$({λf=>(no f c).elim,λ_=>{3,⋯,τ ?_}});dsimp[af,au,Up,wN]at q j k l ⊢;grind
 exact{λf=>(no f c).elim,λg=>(no g hm).elim}
def lU (h1:x.l=y.l)(h2:x.b=y.b)(h3:x.r=y.r)(h4:x.t=y.t):x=y:=by
 $$$x;simp!
def LA (h:o∈walls bx):au o∈walls (au bx):=by
 let h:o=wN bx\/o=wE bx\/o=wS bx\/o=wW bx:=by simpa[walls]using h
 let rfl||rfl||rfl||rfl:=h
 .rw[show au (wN bx)=wW (au bx)from lU (by simp?[au,wN,wW]<;>lia) (by rfl) (by rfl) (by rfl)];simp[walls]
 simp[au,wE,wN,walls]
 .rw[show au (wS bx)=wE (au bx)from lU (by rfl) (by rfl) (by simp?[au,wS,wE]<;>lia) (by rfl)];simp[walls]
 simp[au,wW,wS,walls]
theorem aH.turns (T:aH bx os):∀k,aH (af k bx) (os.map<|af k)
 |0=>by show aH bx (os.map λo=>o);rwa[abT]
 |k+1=>by let:=(T.turns k).turn;rwa[eX]at this
theorem vC (h:o∈walls bx):∀k,af k o∈walls (af k bx)
 |0=>h
 |k+1=>LA<|vC h k
theorem cS.ups:∀(k:Nat) {x n m:Ob},cS (af k x) (af k n) (af k m)->cS x n m
 |0,_,_,_,h=>h
 |k+1,_,_,_,h=>cS.ups k<|cS.up h
def aH.close(T:aH bx os)(d:x∈os)(h:cS x n m)(e:n∈os\/n∈walls bx)(hm:m∈os\/m∈walls bx):(n∈os->cS n m x)/\(m∈os->cS m x n):=by let(k,hk,h):=h;let c:∀{o:Ob},o∈os->af k o∈os.map (af k):=λ{o} h=>ae.2 ⟨o,h,ρ⟩;let up:∀{o:Ob},(o∈os\/o∈walls bx)->(af k o∈os.map (af k)\/af k o∈walls (af k bx)):=λ{o} h=>h.imp c<|λh=>vC h k;let(a,b):=(T.turns k).W1 (c d) h (up e) (up hm);$({λz=>cS.ups k<|a<|c z,λz=>cS.ups k<|b<|c z})
def Nb(bx:Ob)(os:List Ob)(o:Ob):Prop:=o∈os\/o∈walls bx
theorem Nb.ok(T:aH bx os)(a:bx.ok)(h:Nb bx os n):n.l<n.r/\n.b<n.t:=by
 delta Ob.ok at a;let h||h:=h
 .let:=T.aU n h;lia
 let h:n=wN bx\/n=wE bx\/n=wS bx\/n=wW bx:=by simpa[walls]using h
 let rfl||rfl||rfl||rfl:=h<;>simp?[wN,wE,wS,wW]<;>lia
def Nb.ap(T:aH bx os)(a:bx.ok)(h:Nb bx os n)(h':Nb bx os m):n=m\/Apart n m:=by
 let wl:∀{o:Ob},o∈walls bx->o=wN bx\/o=wE bx\/o=wS bx\/o=wW bx:=λ{o} h=>by simpa[walls]using h
 delta Apart;delta Ob.ok at a;let h||h:=h<;>let h'||h':=h'
 .$(T.ap n h m h')
 .let i:=T.aU n h;right;let rfl||rfl||rfl||rfl:=wl h'<;>simp?[wN,wE,wS,wW]<;>$_
 .let i:=T.aU m h';right;let rfl||rfl||rfl||rfl:=wl h<;>simp?[wN,wE,wS,wW]<;>$_
 let rfl||rfl||rfl||rfl:=wl h<;>let rfl||rfl||rfl||rfl:=wl h'<;>first|$(ι ρ)|(right;simp?[wN,wE,wS,wW];$_)
def WG(hx:x.l<x.r/\x.b<x.t)(om:m.l<m.r/\m.b<m.t)(om':m'.l<m'.r/\m'.b<m'.t)(ap:m=m'\/Apart m m')(h:nN x n m)(h':nN x n m'):m=m':=by
 let e||a:=ap
 .$e
 delta nN Up Apart at *;simp[au]at *;$_
def FK (hk:k<4)(hj:j<4)(ox:x.l<x.r/\x.b<x.t)(on:n.l<n.r/\n.b<n.t)(h:Up (af k x) (af k n))(h':Up (af j x) (af j n)):k=j:=by
 let a:k=0\/k=1\/k=2\/k=3:=by lia
 let c:j=0\/j=1\/j=2\/j=3:=by lia
 delta Up at *;let rfl||rfl||rfl||rfl:=a<;>let rfl||rfl||rfl||rfl:=c<;>first|rfl|(exfalso;simp?[af,au]at *;lia)
theorem JU(k)(h:n=m\/Apart n m):af k n=af k m\/Apart (af k n) (af k m):=by
 let h||h:=h
 .$(ι (by rw[h]))
 right;induction k with
 |zero=>$h
 |succ k ih=>show Apart (au<|af k n) (au<|af k m);unfold Apart at *;simp?[au];lia
theorem oJ(k)(h:n.l<n.r/\n.b<n.t):(af k n).l<(af k n).r/\(af k n).b<(af k n).t:=by
 induction k with
 |zero=>$h
 |succ k ih=>simp![au,af]
def nN.up (h:nN x n m):Up x n:=by let(h,_)||(h,_):=h<;>$h
def aH.Mj(T:aH bx os)(a:bx.ok)(e:x∈os)(f:Nb bx os n)(hm:Nb bx os m)(c:Nb bx os m')(h:cS x n m)(h':cS x n m'):m=m':=by let(k,g,h):=h;let(j,i,h'):=h';let d:=Nb.ok T a<|ι e;let:=FK g i d (Nb.ok T a f) h.up h'.up;$$this;$(jo k<|WG (oJ k d) (oJ k<|Nb.ok T a hm) (oJ k<|Nb.ok T a c) (JU k<|Nb.ap T a hm c) h h')
def bR(N:List Ob)(x:Ob)(k:Nat):List Ob:=(N.filter λy=>bd<|Up (af k x)<|af k y).mergeSort λa b=>bd<|(af k a).l<=(af k b).l
def bC(N:List Ob)(x:Ob):List Ob:=bR N x 0++bR N x 1++bR N x 2++bR N x 3
def iJ:y∈bR N x k↔y∈N/\Up (af k x) (af k y):=by simp[bR]
def MN{N:List Ob}{x:Ob}{k:Nat}{i j:Nat}{a b:Ob}(hij:i<=j)(f:(bR N x k)[i]?=al a)(g:(bR N x k)[j]?=al b):(af k a).l<=(af k b).l:=by ext(e:i=j);simp!;let:=ub (le:=λa b=>bd<|(af k a).l<=(af k b).l) (by lia) (by lia) (N.filter λy=>bd<|Up (af k x)<|af k y);let(h,c):=cn.1 f;let(o,d):=cn.1 g;let:=pA.1 this i j h o (by lia);rw[decide_eq_true_eq]at this;rwa[<-c,<-d]
def aH.LB(T:aH bx os)(I:bx.ok)(v:x∈os)(hm:∀y,y∈l↔Nb bx os y/\Up x y)(nd:l.Nodup)(hs:∀(i j:Nat) a b,i<=j->l[i]?=al a->l[j]?=al b->a.l<=b.l) :
  l≠[]/\(∀(i:Nat) a b,l[i]?=al a->l[i+1]?=al b->a.r=b.l)/\(∀a,l[0]?=al a->a.l<=x.l)/\(∀a,l[l.length-1]?=al a->x.r<=a.r):=by
 let ix:=T.aU x v;let wl:∀{o:Ob},o∈walls bx->o=wN bx\/o=wE bx\/o=wS bx\/o=wW bx:=λ{o} h=>by simpa[walls]using h
 ext(A:x.t<bx.t)
 .let room:∀y∈l,y∈os/\Up x y:=λy w=>by
   obtain⟨f,d⟩:=(hm y).1 w;$({?_,d});let h||h:=f
   .$h
   exfalso;delta Up at d;let rfl||rfl||rfl||rfl:=wl h<;>simp?[wN,wE,wS,wW]at d<;>$_
  let at_:∀{z:Ob},z∈os->Up x z->∃j,l[j]?=al z:=λ{z} hz q=>by let(j,g,e):=kA<|(hm z).2 ⟨ι hz,q⟩;$({j,by rw[bt g,e]})
  $({?_,?_,?_,?_})
  .let(y,w,J,_):=T.cover v A (p:=x.l) (by lia) ∅;$(λz=>by let:=(hm y).2 {ι w,J};rw[z]at this;$$$this)
  .ext i a b c s;obtain⟨k,u⟩:=room a<|eH c;obtain⟨D,E⟩:=room b<|eH s;let K:=T.aU a k;let jb:=T.aU b D;let F:a≠b:=λe=>by$$e;let f:=(cn.1 c);let d:=(cn.1 s);let(f,B):=f;let(d,C):=d;let:=pA.1 nd i (i+1) f d (by lia);simp?[B,C]at this;$(this ρ)
   let sab:=hs i (i+1) a b (by lia) c s;let ap:=(T.ap a k b D).resolve_left F;let hle:a.r<=b.l:=by unfold Apart at ap;delta Up at u E;$_
   let(z,hz,q,G):=T.next v A k u (by unfold Up at E;$_);let(j,g):=at_ hz q;ext(H:j<=i)
   .let:=hs j i z a H g c;$_
   let:=hs (i+1) j b z (by lia) s g;lia
  .ext a c;let(k,u):=room a<|eH c;$(r4 λh=>?_);let(z,hz,q,G):=T.prev v A k u (by lia);let(j,g):=at_ hz q;let:=hs 0 j a z (by lia) c g;let jz:=T.aU z hz;$_
  ext a c;let(k,u):=room a<|eH c;$(r4 λh=>?_);let(z,hz,q,G):=T.next v A k u (by lia);let(j,g):=at_ hz q;let hjl:=(cn.1 g).1;let:=hs j (l.length-1) z a ∅ g c;let K:=T.aU a k;$_
 let only:∀y∈l,y=wN bx:=λy w=>by
  obtain⟨f,d⟩:=(hm y).1 w;delta Up at d;let h||h:=f
  .let:=T.aU y h;$_
  let rfl||rfl||rfl||rfl:=wl h
  .rfl
  all_goals exfalso;simp?[wE,wS,wW]at d;lia
 let there:wN bx∈l:=(hm _).2 {τ (by simp[walls]),by delta Up wN;dsimp;$_};$({λz=>(by rw[z]at there;$$$there),?_,?_,?_})
 .ext i a b c s;exfalso;let L:=only a<|eH c;let M:=only b<|eH s;let(f,B):=cn.1 c;let(d,C):=cn.1 s;let:=pA.1 nd i (i+1) f d (by lia);simp?[B,C,L,M]at this;$(this ρ)
 .ext a c;rw[only a (eH c)];simp?[wN];$_
 ext a c;rw[only a (eH c)];simp?[wN];$_
theorem rG(k):Nb (af k bx) (os.map<|af k) (af k y)↔Nb bx os y:=by
 let wl:∀k y,af k y∈walls (af k bx)->y∈walls bx:=λk=>by
  induction k with
  |zero=>$(λy h=>h)
  |succ k j =>
   $(λy h=>j y ?_);let h:au (af k y)∈walls (au<|af k bx):=h;generalize af k y=a at h;generalize af k bx=c at h;let h:au a=wN (au c)\/au a=wE (au c)\/au a=wS (au c)\/au a=wW (au c):=by simpa[walls]using h
   let:a=wE c\/a=wS c\/a=wW c\/a=wN c:=by
    let h||h||h||h:=h
    .left;let d:=congrArg Ob.l h;let f:=congrArg Ob.b h;let g:=congrArg Ob.r h;let i:=congrArg Ob.t h;simp?[au,wN]at d f g i;$(lU (by simp?[wE];$_) (by simp![wE]) (by simp?[wE];$_) (by simp![wE]))
    .right;left;let d:=congrArg Ob.l h;let f:=congrArg Ob.b h;let g:=congrArg Ob.r h;let i:=congrArg Ob.t h;simp?[au,wE]at d f g i;$(lU (by simp?[wS];$_) (by simp?[wS];lia) (by simp?[wS];$_) (by simp![wS]))
    .right;right;left;let d:=congrArg Ob.l h;let f:=congrArg Ob.b h;let g:=congrArg Ob.r h;let i:=congrArg Ob.t h;simp?[au,wS]at d f g i;$(lU (by simp?[wW];$_) (by simp![wW]) (by simp?[wW];$_) (by simp![wW]))
    right;right;right;let d:=congrArg Ob.l h;let f:=congrArg Ob.b h;let g:=congrArg Ob.r h;let i:=congrArg Ob.t h;simp?[au,wW]at d f g i;$(lU (by simp?[wN];$_) (by simp![wN]) (by simp?[wN];$_) (by grind [wN]))
   grind [walls]
 constructor
 .ext (h|h)
  .let(z,hz,e):=ae.1 h;rw[<-jo k e];$(ι hz)
  $(τ<|wl k y h)
 ext (h|h)
 .$(ι<|ae.2 ⟨y,h,ρ⟩)
 $(τ<|vC h k)
def mS(k:Nat)(h:bx.ok):(af k bx).ok:=oJ k h
def Bn(k)(hk:k<4)(o):∃y,af k y=o:=by
 let a:=pX;let b:k=0\/k=1\/k=2\/k=3:=by lia
 let rfl||rfl||rfl||rfl:=b
 .$(⟨o,ρ⟩)
 .$({au<|au<|au o,a o})
 .$({au<|au o,a o})
 $({au o,a o})
def aH.chain(T:aH bx os)(s:bx.ok)(t:x∈os)(nd:(os++walls bx).Nodup)(u:k<4):bR (os++walls bx) x k≠[]/\(∀(i:Nat) a b,(bR (os++walls bx) x k)[i]?=al a->(bR (os++walls bx) x k)[i+1]?=al b->(af k a).r=(af k b).l) /\
  (∀a,(bR (os++walls bx) x k)[0]?=al a->(af k a).l<=(af k x).l)/\(∀a,(bR (os++walls bx) x k)[(bR (os++walls bx) x k).length-1]?=al a->(af k x).r<=(af k a).r):=by
 let sn:(bR (os++walls bx) x k).Nodup:=(gk _ _).nodup_iff.2 (md qh nd);let key:=(T.turns k).LB (mS k s) (ae.2 ⟨x,t,ρ⟩) (λy=>by
  let(z,rfl):=Bn k u y;rw[rG,ae];constructor
  .ext⟨w,hw,e⟩;rw[jo k e]at hw;let(f,g):=iJ.1 hw;$({eK.1 f,g})
  .ext⟨f,g⟩;$({z,iJ.2 {eK.2 f,g},ρ})) (gd.2 (sn.imp λh e=>h<|jo k e)) (λi j a b o c d=>by
  rw[dk]at c d;let(a',p,rfl):=ft.1 c;let(b',q,rfl):=ft.1 d;$(MN o p q))
 let(k1,k2,k3,v):=key;refine{λz=>k1 (by rw[z];rfl),λi a b c d=>k2 i _ _ (by rw[dk,c];rfl) (by rw[dk,d];rfl),λa c=>k3 _ (by rw[dk,c];rfl),λa c=>v _ (by simp!)}
def tI (R:α->α->Prop)(l:List α):Prop:=∀(i:Nat) a b,l[i]?=al a->l[i+1]?=al b->R a b
def Bk (hA:tI R A)(f:tI R B)(h:∀a b,A[A.length-1]?=al a->B[0]?=al b->R a b):tI R (A++B):=by
 ext i a b c d;ext(g:i+1<A.length)
 .rw[kH (by lia)]at c;rw[kH g]at d;$(hA i a b c d)
 ext(j:i<A.length)
 .let e:i=A.length-1:=⋯;rw[kH j,e]at c;rw[kq ∅,show i+1-A.length=0 from by$_]at d;$(h a b c d)
 rw[kq ∅]at c d;$(f (i-A.length) a b c (by grind))
def zt (a:B≠[]):(A++B)[(A++B).length-1]?=B[B.length-1]?:=by
 let:=pB.2 a;rw[kq (by rw[eR];$_),eR]
 congr 1
 lia
def QR (hA:A≠[]):(A++B)[0]?=A[0]?:=by rw[kH (pB.2 hA)]
def aH.vR(T:aH bx os)(f:bx.ok)(g:x∈os)(nd:(os++walls bx).Nodup)(c:k<4):tI (cS x) (bR (os++walls bx) x k):=by ext i a b d e;refine{k,c,ι {(iJ.1<|eH d).2,(iJ.1<|eH e).2,(T.chain f g nd c).2.1 i a b d e}}
def aH.vo(T:aH bx os)(d:bx.ok)(e:x∈os)(nd:(os++walls bx).Nodup)(f:k<4)(i:j<4)(c:∀o,af j o=au (af k o))(g:(bR (os++walls bx) x k)[(bR (os++walls bx) x k).length-1]?=al a)(h:(bR (os++walls bx) x j)[0]?=al b):cS x a b:=by
 $({k,f,τ {(iJ.1<|eH g).2,(T.chain d e nd f).2.2.2 a g,?_,?_}})
 .simp[<-c];$((iJ.1<|eH h).2)
 let:=(T.chain d e nd i).2.2.1 b h;simp![au]
def aH.x8(T:aH bx os)(c:bx.ok)(d:x∈os)(nd:(os++walls bx).Nodup)(f:(bC (os++walls bx) x)[i]?=al a)(g:(bC (os++walls bx) x)[(i+1)%(bC (os++walls bx) x).length]?=al b):cS x a b:=by
 let t:=(T.chain c d nd (k:=0) ⋯).1;let u:=(T.chain c d nd (k:=1) ⋯).1;let v:=(T.chain c d nd (k:=2) ⋯).1;let w:=(T.chain c d nd (k:=3) ⋯).1;let l:∀a b,(bR (os++walls bx) x 0)[(bR (os++walls bx) x 0).length-1]?=al a->(bR (os++walls bx) x 1)[0]?=al b->cS x a b:=λa b=>T.vo c d nd ⋯ ⋯ λo=>rfl;let p:∀a b,(bR (os++walls bx) x 1)[(bR (os++walls bx) x 1).length-1]?=al a->(bR (os++walls bx) x 2)[0]?=al b->cS x a b:=λa b=>T.vo c d nd ⋯ ⋯ λo=>rfl;let q:∀a b,(bR (os++walls bx) x 2)[(bR (os++walls bx) x 2).length-1]?=al a->(bR (os++walls bx) x 3)[0]?=al b->cS x a b:=λa b=>T.vo c d nd ⋯ ⋯ λo=>rfl;let r:∀a b,(bR (os++walls bx) x 3)[(bR (os++walls bx) x 3).length-1]?=al a->(bR (os++walls bx) x 0)[0]?=al b->cS x a b:=λa b=>T.vo c d nd (k:=3) (j:=0) ⋯ ⋯ λo=>(pX o).symm;let s:tI (cS x) (bC (os++walls bx) x):=by
  $(Bk (Bk (Bk (T.vR c d nd ⋯) (T.vR c d nd ⋯) l) (T.vR c d nd ⋯) λa b f g=>?_) (T.vR c d nd ⋯) λa b f g=>?_)
  .rw[zt u]at f;$(p a b f g)
  rw[zt v]at f;$(q a b f g)
 let hi:=(cn.1 f).1;ext(h:i+1<(bC (os++walls bx) x).length)
 .rw[aaf h]at g;$(s i a b f g)
 let e:i+1=(bC (os++walls bx) x).length:=by lia
 rw[e,acH]at g;let B:i=(bC (os++walls bx) x).length-1:=by lia
 rw[B]at f;apply r a b
 .rw[<-(zt (A:=bR (os++walls bx) x 0++bR (os++walls bx) x 1++bR (os++walls bx) x 2) w)];$f
 let C:(bC (os++walls bx) x)[0]?=(bR (os++walls bx) x 0)[0]?:=by delta bC;rw[pw,pw,QR t]
 rwa[<-C]
def jh:y∈bC N x↔y∈N/\∃k,k<4/\Up (af k x) (af k y):=by
 delta bC;simp?[eK,iJ,iJ,iJ,iJ];constructor
 .ext (((h|h)|h)|h)
  .$({h.1,0,⋯,h.2})
  .$({h.1,1,⋯,h.2})
  .$({h.1,2,⋯,h.2})
  $({h.1,3,⋯,h.2})
 ext⟨h,k,hk,u⟩;let a:k=0\/k=1\/k=2\/k=3:=by lia
 let rfl||rfl||rfl||rfl:=a
 .$(ι<|ι<|ι ⟨h,u⟩)
 .$(ι<|ι<|τ ⟨h,u⟩)
 .$(ι<|τ ⟨h,u⟩)
 $(τ ⟨h,u⟩)
def aH.u4(T:aH bx os)(f:bx.ok)(h:x∈os)(nd:(os++walls bx).Nodup):(bC (os++walls bx) x).Nodup:=by
 let sn:∀k,(bR (os++walls bx) x k).Nodup:=λk=>(gk _ _).nodup_iff.2 (md qh nd);let i:=Nb.ok T f<|ι h;let gY:∀{j k:Nat},j<4->k<4->j≠k->∀a∈bR (os++walls bx) x j,∀b∈bR (os++walls bx) x k,a≠b:=λ{j k} o p g a c b d e=>by$$e;let(q,s):=iJ.1 c;let(h2,u):=iJ.1 d;$(g<|FK o p i (Nb.ok T f<|eK.1 q) s u)
 delta bC;rw[ka,ka,ka];$({{{sn 0,sn 1,gY ⋯ ⋯ ⋯},sn 2,λa c b d=>?_},sn 3,λa c b d=>?_})
 .let c||c:=eK.1 c
  .$(gY ⋯ ⋯ ⋯ a c b d)
  $(gY ⋯ ⋯ ⋯ a c b d)
 let c||c:=eK.1 c
 .let c||c:=eK.1 c
  .$(gY ⋯ ⋯ ⋯ a c b d)
  $(gY ⋯ ⋯ ⋯ a c b d)
 $(gY ⋯ ⋯ ⋯ a c b d)
def bS (l:List α)(n m:α):Prop:=∃i,l[i]?=al n/\l[(i+1)%l.length]?=al m
def aH.fg(T:aH bx os)(b:bx.ok)(c:x∈os)(nd:(os++walls bx).Nodup)(d:Nb bx os n)(hm:Nb bx os m):bS (bC (os++walls bx) x) n m↔cS x n m:=by
 constructor
 .ext⟨i,l,o⟩;$(T.x8 b c nd l o)
 ext h;let p:n∈bC (os++walls bx) x:=by let(k,q,f):=h;$(jh.2 {eK.2 d,k,q,f.up})
 let(i,r,e):=kA p;let e:(bC (os++walls bx) x)[i]?=al n:=by rw[bt r,e]
 let g:(i+1)%(bC (os++walls bx) x).length<(bC (os++walls bx) x).length:=aat _ (by lia);let a:=bt g;generalize (bC (os++walls bx) x)[(i+1)%(bC (os++walls bx) x).length]=m' at a;let j:=eK.1 (jh.1<|eH a).1;let:=T.Mj b c d hm j h<|T.x8 b c nd e a;$$this;$(⟨i,e,a⟩)
def aH.F8(T:aH bx os)(d:bx.ok)(c:x∈os)(nd:(os++walls bx).Nodup)(h:bS (bC (os++walls bx) x) n m):(n∈os->bS (bC (os++walls bx) n) m x)/\(m∈os->bS (bC (os++walls bx) m) x n):=by
 let e:Nb bx os n:=by let(i,f,_):=h;$(eK.1 (jh.1<|eH f).1)
 let hm:Nb bx os m:=by let(i,_,f):=h;$(eK.1 (jh.1<|eH f).1)
 let(a,b):=T.close c ((T.fg d c nd e hm).1 h) e hm;$({λz=>(T.fg d z nd hm<|ι c).2 (a z),λz=>(T.fg d z nd (ι c) e).2 (b z)})
def aK (f:α->Nat):List α->Nat
 |[]=>0
 |a::l=>f a+aK f l
theorem vf (f):∀l b:List α,aK f (l++b)=aK f l+aK f b
 |[],b=>by simp[aK]
 |a::l,b=>by show f a+aK f (l++b)=f a+aK f l+aK f b;rw[vf f l b];lia
theorem dQ:∀{l:List α},(∀a∈l,f a=g a)->aK f l=aK g l
 |[],_=>rfl
 |a::l,h=>by show f a+aK f l=g a+aK g l;rw[h a ⋯,dQ λb c=>h b (by simp[c])]
theorem kS (f g):∀l:List α,aK (λa=>f a+g a) l=aK f l+aK g l
 |[]=>rfl
 |a::l=>by show f a+g a+aK (λa=>f a+g a) l=f a+aK f l+(g a+aK g l);rw[kS f g l];lia
theorem uW (c):∀l:List α,aK (λ_=>c) l=c*l.length
 |[]=>rfl
 |a::l=>by show c+aK (λ_=>c) l=c*(l.length+1);simp?[uW c l,Nat.mul_add];lia
theorem yC (p):∀l:List α,aK (λa=>if p a=bi then 1 else 0) l=l.countP p
 |[]=>rfl
 |a::l=>by show(if p a=bi then 1 else 0)+aK (λa=>if p a=bi then 1 else 0) l=_;simp?[yC p l,ma];lia
theorem wG (p:α->d->Bool)(l:List α)(c:List d):aK (λa=>c.countP<|p a) l=aK (λb=>l.countP λa=>p a b) c:=by
 induction l with
 |nil=>show 0=_;simp[show aK (λb=>ae0 (λa=>p a b) []) c=aK (λ_=>0) c from ρ,uW,Nat.zero_mul]
 |cons a l e=>show c.countP (p a)+aK (λa=>c.countP<|p a) l=_;rw[e,<-yC,<-kS];$(dQ λb _=>?_);simp[ma];lia
theorem jv (p q:α->Bool)(l:List α):l.countP p=(l.countP λa=>p a&&q a)+l.countP λa=>p a&&!q a:=by
 induction l with
 |nil=>rfl
 |cons a l b=>simp?[ma,b];cases p a<;>cases q a<;>simp<;>lia
theorem pM{α:Type}{p:α->Bool}{l:List α}(nd:l.Nodup)(ex:∃a∈l,p a=bi)(un:∀a∈l,∀b∈l,p a=bi->p b=bi->a=b):l.countP p=1:=by
 induction l with
 |nil=>simp!
 |cons c l i =>
  rw[qo]at nd;rw[ma];ext(e:p c=bi)
  .rw[if_pos e];let:l.countP p=0:=by rw[LS];ext b f h;let:=un c ⋯ b (by simp[f]) e h;$$this;$(nd.1 f)
   lia
  rw[if_neg e];let(a,d,g):=ex;let rfl||d:=eW.1 d
  .cases e g
  rw[i nd.2 ⟨a,d,g⟩ λa d b f=>un a (by simp[d]) b (by simp[f])]
def aH.Bq(T:aH bx os)(d:bx.ok)(hz:Nb bx os z)(f:x∈os)(u:Up z x)(h1:z.l<=p)(h2:p<z.r):∃y∈os,Up z y/\y.l<=p/\p<y.r:=by
 let ix:=T.aU x f;let oz:=Nb.ok T d hz;let wl:∀{o:Ob},o∈walls bx->o=wN bx\/o=wE bx\/o=wS bx\/o=wW bx:=λ{o} h=>by simpa[walls]using h
 let hb:bx.l<=z.l/\z.r<=bx.r/\bx.b<=z.t/\z.t<bx.t:=by
  delta Up at u;let h||h:=hz
  .let:=T.aU z h;$_
  let rfl||rfl||rfl||rfl:=wl h<;>simp?[wN,wE,wS,wW]at u ⊢<;>$_
 let(y,c,k1,k2,k3,k4):=T.hit p z.t ∅ ∅ ∅ ∅;$({y,c,?_,k1,k2});delta Up;let e||a:=Nb.ap T d hz (ι c)
 .$$e;lia
 delta Apart at a;lia
def aH.firsts(T:aH bx os)(e:bx.ok)(nd:os.Nodup)(hz:Nb bx os z):(os.countP λx=>bd (Up z x)&&bd (z.l<x.l))=os.countP λx=>bd (Up z x)&&bd (x.r<z.r):=by
 ext(h:∃x∈os,Up z x)
 .let(x,k,u):=h;let s:=Nb.ok T e hz;let c1:=jv (λx=>bd<|Up z x) (λx=>bd<|z.l<x.l) os;let c2:=jv (λx=>bd<|Up z x) (λx=>bd<|x.r<z.r) os;let f1:(os.countP λa=>bd (Up z a)&&!bd (z.l<a.l))=1:=by
   apply pM nd
   .let(y,f,g,k1,k2):=T.Bq e hz k u ⋯ s.1;$({y,f,by simp[g];$_})
   ext a c b d i j;simp at i j;let t:=T.aU a c;let v:=T.aU b d;$((T.ap a c b d).resolve_right λq=>?_);grind [Apart,Up]
  let f2:(os.countP λa=>bd (Up z a)&&!bd (a.r<z.r))=1:=by
   apply pM nd
   .let(y,f,g,k1,k2):=T.Bq e hz k u (p:=z.r-1) (by lia) (by lia);$({y,f,by simp[g];lia})
   ext a c b d i j;simp at i j;let t:=T.aU a c;let v:=T.aU b d;$((T.ap a c b d).resolve_right λq=>?_);grind [Apart,Up]
  simp!
 let o:∀q:Ob->Bool,(os.countP λx=>bd (Up z x)&&q x)=0:=by simp!
 simp[o]
def aH.Wz(T:aH bx os)(f:bx.ok)(A:x∈os){N:List Ob}(c:∀y,y∈N↔Nb bx os y)(nd:N.Nodup) :
  (N.countP λz=>bd (Up x z)&&bd (x.r<z.r))+(N.countP λz=>bd (Up (au x)<|au z)&&bd ((au z).l<(au x).l))+(if x.t=bx.t/\x.r=bx.r then 1 else 0)=1:=by
 let i:=T.aU x A;let wl:∀{o:Ob},o∈walls bx->o=wN bx\/o=wE bx\/o=wS bx\/o=wW bx:=λ{o} h=>by simpa[walls]using h
 let L:wN bx∈N:=(c _).2 (τ (by simp[walls]));let M:wE bx∈N:=(c _).2 (τ (by simp[walls]));let P:∀a∈N,∀b∈N,(bd (Up x a)&&bd (x.r<a.r))=bi->(bd (Up x b)&&bd (x.r<b.r))=bi->a=b:=λa e b k d j=>by simp at d j;let E:=Nb.ok T f<|(c a).1 e;let ob:=Nb.ok T f<|(c b).1 k;$((Nb.ap T f ((c a).1 e)<|(c b).1 k).resolve_right λq=>?_);unfold Apart at q;delta Up at d j;$_
 let Q:∀a∈N,∀b∈N,(bd (Up (au x)<|au a)&&bd ((au a).l<(au x).l))=bi->(bd (Up (au x)<|au b)&&bd ((au b).l<(au x).l))=bi->a=b:=λa e b k d j=>by simp at d j;let E:=Nb.ok T f<|(c a).1 e;let ob:=Nb.ok T f<|(c b).1 k;$((Nb.ap T f ((c a).1 e)<|(c b).1 k).resolve_right λq=>?_);unfold Apart at q;delta Up at d j;simp?[au]at d j;$_
 obtain⟨n,B,un,X⟩:∃n∈N,Up x n/\x.r<=n.r:=by
  ext(R:x.t<bx.t)
  .let(y,F,G,k1,k2):=T.cover A R (p:=x.r-1) ⋯ (by lia);$({y,(c y).2 (ι F),G,by lia})
  $({wN bx,L,by delta Up wN;dsimp;$_,by simp?[wN];$_})
 obtain⟨m,hm,g,em⟩:∃m∈N,Up (au x) (au m)/\x.t<=m.t:=by
  ext(R:x.r<bx.r)
  .let(y',S,G,k1,k2):=T.turn.cover (ae.2 ⟨x,A,ρ⟩) (by simp?[au];$_) (p:=(au x).l) ⋯ (by simp?[au];$_);let(y,F,rfl):=ae.1 S;$({y,(c y).2 (ι F),G,by simp?[au]at k1;lia})
  $({wE bx,M,by$$(Up);simp?[au,wE];$_,by simp?[wE];$_})
 let U:∀{q:Ob->Bool},(∃a∈N,q a=bi)->(∀a∈N,∀b∈N,q a=bi->q b=bi->a=b)->N.countP q=1:=λex un=>pM nd ex un;let V:∀{q:Ob->Bool},(∀a∈N,q a≠true)->N.countP q=0:=λh=>LS.2 h;let C:∀a∈N,(bd (Up x a)&&bd (x.r<a.r))=bi->a=n:=λa e d=>by simp at d;let E:=Nb.ok T f<|(c a).1 e;let ob:=Nb.ok T f<|(c n).1 B;$((Nb.ap T f ((c a).1 e)<|(c n).1 B).resolve_right λq=>?_);unfold Apart at q;delta Up at d un;$_
 let D:∀a∈N,(bd (Up (au x)<|au a)&&bd ((au a).l<(au x).l))=bi->a=m:=λa e d=>by simp at d;let E:=Nb.ok T f<|(c a).1 e;let ob:=Nb.ok T f<|(c m).1 hm;$((Nb.ap T f ((c a).1 e)<|(c m).1 hm).resolve_right λq=>?_);unfold Apart at q;delta Up at d g;simp?[au]at d g;$_
 let s:x.r<n.r->(N.countP λz=>bd (Up x z)&&bd (x.r<z.r))=1:=λh=>U {n,B,by simp[un,h]} P;let u:¬x.r<n.r->(N.countP λz=>bd (Up x z)&&bd (x.r<z.r))=0:=λh=>V λa e d=>by let:=C a e d;$$this;simp?[e8,decide_eq_true_eq]at d;$(h d.2)
 let v:x.t<m.t->(N.countP λz=>bd (Up (au x)<|au z)&&bd ((au z).l<(au x).l))=1:=λh=>U {m,hm,by simp?[e8,decide_eq_true_eq];$({g,by simp?[au];$_})} Q;let w:¬x.t<m.t->(N.countP λz=>bd (Up (au x)<|au z)&&bd ((au z).l<(au x).l))=0:=λh=>V λa e d=>by let:=D a e d;$$this;simp?[e8,decide_eq_true_eq]at d;let:=d.2;simp?[au]at this;lia
 let H||wn:=(c n).1 B<;>let I||W:=(c m).1 hm
 .let Y:=T.aU n H;let Z:=T.aU m I;rw[if_neg (by unfold Up at un;$_)];let(a,b)||(a,b):=T.tee A H I un X g em
  .rw[s a,w (by lia)]
  rw[u (by lia),v b]
 .let Y:=T.aU n H;let(rfl,J):=nq W i g;let K:=un.1;rw[u ∅,v (by let:=g.2.1;dsimp[au,wE]at this ⊢;$_),if_neg ∅]
 .let Z:=T.aU m I;let(rfl,J):=lH wn i un;let K:m.l=x.r:=g.1;rw[s (by let:=un.2.2;dsimp[wN]at this ⊢;$_),w ∅,if_neg ∅]
 let(rfl,K):=lH wn i un;let(rfl,J):=nq W i g;rw[u (by dsimp[wN];$_),w (by dsimp[wE];$_),if_pos ⟨K,J⟩]
def nf(k:Nat)(z x:Ob):Bool:=bd (Up (af k z)<|af k x)&&bd ((af k z).l<(af k x).l)
def nl(k:Nat)(z x:Ob):Bool:=bd (Up (af k z)<|af k x)&&bd ((af k x).r<(af k z).r)
def on(k:Nat)(z x:Ob):Bool:=bd<|Up (af k z)<|af k x
def A9(z x):Up z x↔Up (au<|au x) (au<|au z):=by delta Up;simp[au];lia
def ex(k:Nat)(x z:Ob):Bool:=bd (Up (af k x)<|af k z)&&bd ((af k x).r<(af k z).r)
def st(k:Nat)(x z:Ob):Bool:=bd (Up (af k x)<|af k z)&&bd ((af k z).l<(af k x).l)
def Pn(z x):nf 0 z x=ex 2 x z:=by
 delta nf ex;simp[show bd (Up (af 0 z)<|af 0 x)=bd (Up (af 2 x)<|af 2 z)from decide_eq_decide.2<|A9 z x]
 congr 1;apply decide_eq_decide.2;simp[af,au]
def NQ(z x):nl 0 z x=st 2 x z:=by
 delta nl st;simp[show bd (Up (af 0 z)<|af 0 x)=bd (Up (af 2 x)<|af 2 z)from decide_eq_decide.2<|A9 z x]
 congr 1;apply decide_eq_decide.2;simp[af,au]
def yP(k)(o):af (k+4) o=af k o:=pX<|af k o
theorem oj(j):∀(k:Nat) (o:Ob),af (j+k) o=af k (af j o)
 |0,_=>rfl
 |k+1,o=>by show au (af (j+k) o)=au (af k<|af j o);rw[oj j k o]
def Me(k)(z x):nf k z x=ex (k+2) x z:=by let:=Pn (af k z)<|af k x;assumption
def Wk(k)(z x):nl k z x=st (k+2) x z:=by let:=NQ (af k z)<|af k x;assumption
def uE(k)(x z):st (k+4) x z=st k x z:=by simp[st,yP]
def vq(k:Nat){l:List Ob}(h:l.Nodup):(l.map<|af k).Nodup:=gd.2 (h.imp λa e=>a<|jo k e)
def aH.P1(T:aH bx os)(a:bx.ok)(nd:os.Nodup)(hz:Nb bx os z)(k:Nat):os.countP (nf k z)=os.countP (nl k z):=by let:=(T.turns k).firsts (mS k a) (vq k nd) ((rG k).2 hz);simp at this;$this
def aH.corner(T:aH bx os)(a:bx.ok)(b:x∈os)(nd:(os++walls bx).Nodup)(c:k<4) :
  (os++walls bx).countP (λz=>bd (Up (af k x)<|af k z)&&bd ((af k x).r<(af k z).r))+(os++walls bx).countP (λz=>bd (Up (af (k+1) x)<|af (k+1) z)&&bd ((af (k+1) z).l<(af (k+1) x).l))+(if(af k x).t=(af k bx).t/\(af k x).r=(af k bx).r then 1 else 0)=1:=by
 let:=(T.turns k).Wz (mS k a) (ae.2 ⟨x,b,ρ⟩) (λy=>by
  let(z,rfl):=Bn k c y;rw[rG,ae];constructor
  .ext⟨w,hw,e⟩;simp?[jo k e]at hw;$(eK.1 hw)
  $(λh=>{z,eK.2 h,ρ})) (vq k nd)
 simp?[qp]at this;$this
def aH.outer(T:aH bx os)(h:bx.ok)(nd:os.Nodup)(k:Nat):aK (λx=>if(af k x).t=(af k bx).t/\(af k x).r=(af k bx).r then 1 else 0) os=1:=by
 let c:=T.turns k;let f:=mS k h;let e:aK (λx=>if(af k x).t=(af k bx).t/\(af k x).r=(af k bx).r then 1 else 0) os=os.countP λx=>bd ((af k x).t=(af k bx).t/\(af k x).r=(af k bx).r):=by grind [yC]
 rw[e];unfold Ob.ok at f;apply pM nd
 .let(o,ho,k1,k2,k3,k4):=c.hit ((af k bx).r-1) ((af k bx).t-1) (by lia) (by lia) (by lia) (by lia);let(a,d,rfl):=ae.1 ho;let:=c.aU _ ho;$({a,d,by rw[decide_eq_true_eq];lia})
 ext a d b g i j;let ja:=c.aU _<|ae.2 ⟨a,d,ρ⟩;let jb:=c.aU _<|ae.2 ⟨b,g,ρ⟩;$(jo k ((c.ap _ (ae.2 ⟨a,d,ρ⟩) _<|ae.2 ⟨b,g,ρ⟩).resolve_right λq=>?_));grind [Apart]
def cj(f:Nat->Nat):Nat:=f 0+f 1+f 2+f 3
def yX (f:Nat->α->Nat)(l:List α):aK (λa=>cj λk=>f k a) l=cj λk=>aK (f k) l:=by simp[cj,kS]
def aH.pairs(T:aH bx os)(h:bx.ok)(nd:(os++walls bx).Nodup):2*aK (λz=>cj λk=>os.countP<|nf k z) (os++walls bx)+4=4*os.length:=by
 let e:=(ka.1 nd).1;let b:∀k,aK (λz=>os.countP<|nf k z) (os++walls bx)=aK (λx=>(os++walls bx).countP (ex (k+2) x)) os:=by simp[wG,Me]
 let d:∀k,aK (λz=>os.countP<|nf k z) (os++walls bx)=aK (λx=>(os++walls bx).countP (st (k+2) x)) os:=λk=>by rw[dQ (g:=λz=>os.countP<|nl k z) λz hz=>T.P1 h e (eK.1 hz) k,wG];simp[Wk]
 let j:∀k x,(os++walls bx).countP (ex (k+4) x)=(os++walls bx).countP (ex k x):=λk x=>by congr 1;funext z;$((λk x z=>by simp[ex,yP]) k x z)
 let i:∀k x,(os++walls bx).countP (st (k+4) x)=(os++walls bx).countP (st k x):=λk x=>by congr 1;funext z;$(uE k x z)
 let c:∀k,k<4->aK (λx=>(os++walls bx).countP (ex k x)) os+aK (λx=>(os++walls bx).countP (st (k+1) x)) os+1=os.length:=λk o=>by let a:=dQ (l:=os) (f:=λx=>(os++walls bx).countP (ex k x)+(os++walls bx).countP (st (k+1) x)+(if(af k x).t=(af k bx).t/\(af k x).r=(af k bx).r then 1 else 0)) (g:=λ_=>1) λx p=>T.corner h p nd o;simpa only[kS,kS,uW,T.outer h e k,Nat.one_mul]using a
 let c1:=c 1 ⋯;let q:=c 3 ⋯;let a1:=b 1;let s:=b 2;let u:=b 3;let b0:=d 0;let v:=d 2;let w:=d 3;rw[dQ λx _=>j 0 x]at s;rw[dQ (g:=λx=>(os++walls bx).countP (ex 1 x)) λx _=>j 1 x]at u;rw[dQ (g:=λx=>(os++walls bx).countP (st 0 x)) λx _=>i 0 x]at v;rw[dQ (g:=λx=>(os++walls bx).countP (st 0 x)) λx _=>i 0 x]at q;rw[yX];grind [cj]
def aH.W'(T:aH bx os)(c:bx.ok)(nd:os.Nodup)(hz:Nb bx os z)(h:∃x∈os,Up z x):(os.countP λx=>bd<|Up z x)=(os.countP λx=>bd (Up z x)&&bd (z.l<x.l))+1:=by
 let(x,i,u):=h;let j:=Nb.ok T c hz;rw[jv (λx=>bd<|Up z x) (λx=>bd<|z.l<x.l) os]
 congr 1;apply pM nd
 .let(y,k,o,k1,k2):=T.Bq c hz i u ⋯ j.1;$({y,k,by simp[o];$_})
 ext a d b e f g;simp at f g;let ja:=T.aU a d;let jb:=T.aU b e;$((T.ap a d b e).resolve_right λq=>?_);unfold Apart at q;delta Up at f g;$_
def aH.L4(T:aH bx os)(a:bx.ok)(nd:os.Nodup)(hz:Nb bx os z)(k:Nat)(h:∃x∈os,on k z x=bi):os.countP (on k z)=os.countP (nf k z)+1:=by
 let:=(T.turns k).W' (mS k a) (vq k nd) ((rG k).2 hz) (by let(x,b,u):=h;$({af k x,ae.2 ⟨x,b,ρ⟩,of_decide_eq_true u}))
 simp at this;$this
def OO (h:∀x∈os,on k z x=bn):os.countP (on k z)=0/\os.countP (nf k z)=0:=by constructor;simp!;rw[LS];ext x hx e;let:nf k z x=(on k z x&&bd ((af k z).l<(af k x).l)):=ρ;simp!
def aH.KQ(T:aH bx os)(p:bx.ok)(nd:os.Nodup)(hz:z∈walls bx):cj (λk=>os.countP<|on k z)=cj (λk=>os.countP<|nf k z)+1:=by
 let wl:z=wN bx\/z=wE bx\/z=wS bx\/z=wW bx:=by simpa[walls]using hz
 let q:=p;unfold Ob.ok at q;let(a,d,a1,a2,a3,a4):=T.hit bx.l bx.b (by lia) (by lia) (by lia) (by lia);let(b,e,b1,b2,b3,b4):=T.hit (bx.r-1) (bx.t-1) (by lia) (by lia) (by lia) (by lia);let ja:=T.aU a d;let jb:=T.aU b e;let no:∀k,(∀x,(bx.l<=x.l/\x.l<x.r/\x.r<=bx.r/\bx.b<=x.b/\x.b<x.t/\x.t<=bx.t)->¬Up (af k z) (af k x))->os.countP (on k z)=0/\os.countP (nf k z)=0:=λk h=>OO λx f=>decide_eq_false<|h x<|T.aU x f;let c:∀k,(∃x∈os,Up (af k z)<|af k x)->os.countP (on k z)=os.countP (nf k z)+1:=λk ⟨x,f,u⟩=>T.L4 p nd (τ hz) k {x,f,decide_eq_true u};delta cj;dsimp;let rfl||rfl||rfl||rfl:=wl
 .let h0:=no 0 (λx i u=>by simp?[af,au,Up,wN]at u;$_);let g:=no 1 (λx i u=>by simp?[af,au,Up,wN]at u;$_);let j:=no 3 (λx i u=>by simp?[af,au,Up,wN]at u;$_);let o:=c 2 {b,e,by simp?[af,au,Up,wN];$_};lia
 .let h0:=no 0 (λx i u=>by simp?[af,au,Up,wE]at u;$_);let g:=no 1 (λx i u=>by simp?[af,au,Up,wE]at u;$_);let o:=no 2 (λx i u=>by simp?[af,au,Up,wE]at u;$_);let j:=c 3 {b,e,by simp?[af,au,Up,wE];$_};lia
 .let g:=no 1 (λx i u=>by simp?[af,au,Up,wS]at u;$_);let o:=no 2 (λx i u=>by simp?[af,au,Up,wS]at u;$_);let j:=no 3 (λx i u=>by simp?[af,au,Up,wS]at u;$_);let h0:=c 0 {a,d,by simp?[af,au,Up,wS];$_};lia
 let h0:=no 0 (λx i u=>by simp?[af,au,Up,wW]at u;$_);let o:=no 2 (λx i u=>by simp?[af,au,Up,wW]at u;$_);let j:=no 3 (λx i u=>by simp?[af,au,Up,wW]at u;$_);let g:=c 1 {a,d,by simp?[af,au,Up,wW];$_};lia
def aH.wY(T:aH bx os)(c:bx.ok)(f:x∈os)(nd:(os++walls bx).Nodup)(s:k<4):(os++walls bx).countP (on k x)=os.countP (nf k x)+1:=by
 let(ne,_,u,_):=T.chain c f nd s;let sp:=jv (on k x) (λz=>bd<|(af k x).l<(af k z).l)<|os++walls bx;let v:((os++walls bx).countP λa=>on k x a&&!bd ((af k x).l<(af k a).l))=1:=by
  apply pM nd
  .obtain⟨a,d⟩:∃a,(bR (os++walls bx) x k)[0]?=al a:={_,bt<|pB.2 ne};let hm:=iJ.1<|eH d;let:=u a d;$({a,hm.1,?_});simp![on]
  ext a d b g h j;unfold on at h j;simp at h j;let oa:=oJ k<|Nb.ok T c<|eK.1 d;let ob:=oJ k<|Nb.ok T c<|eK.1 g;$(jo k ((JU k<|Nb.ap T c (eK.1 d)<|eK.1 g).resolve_right λq=>?_));grind [Apart,Up]
 let A:((os++walls bx).countP λa=>on k x a&&bd ((af k x).l<(af k a).l))=os.countP (nf k x):=by
  rw[qe];let:((walls bx).countP λa=>on k x a&&bd ((af k x).l<(af k a).l))=0:=by
   rw[LS];ext w hw e;unfold on at e;simp at e;let i:=(T.turns k).aU _ (ae.2 ⟨x,f,ρ⟩);let o:=vC hw k;let p:=mS k c;let o:af k w=wN (af k bx)\/af k w=wE (af k bx)\/af k w=wS (af k bx)\/af k w=wW (af k bx):=by simp![walls]
   unfold Up at e;let q||q||q||q:=o<;>rw[q]at e<;>simp?[wN,wE,wS,wW]at e<;>$_
  rw[this];rfl
 simp?[sp,v,A]
def Hj(z x)(k):on k z x=on (k+2) x z:=by$(decide_eq_decide.2<|A9 _ _)
def HL(k)(z x):on (k+4) z x=on k z x:=by simp[on,yP]
def Lb(l:List Ob)(x:Ob):cj (λk=>l.countP λz=>on k z x)=cj λk=>l.countP (on k x):=by
 let e:∀k,(l.countP λz=>on k z x)=l.countP (on (k+2) x):=λk=>by congr 1;funext z;$(Hj z x k)
 let f:∀k,l.countP (on (k+4) x)=l.countP (on k x):=λk=>by congr 1;funext z;$(HL k x z)
 grind [cj]
def aH.ties(T:aH bx os)(a:bx.ok)(nd:(os++walls bx).Nodup):aK (λx=>cj λk=>os.countP<|on k x) os+2*aK (λx=>cj λk=>(walls bx).countP (on k x)) os=6*os.length+2:=by
 let c:=(ka.1 nd).1;let p:=T.pairs a nd;rw[vf]at p;let w1:aK (λz=>cj λk=>os.countP<|on k z) (walls bx)=aK (λz=>cj λk=>os.countP<|nf k z) (walls bx)+4:=by simp?[dQ (g:=λz=>(cj λk=>os.countP<|nf k z)+1) λz hz=>T.KQ a c hz,kS];rfl
 let w2:aK (λz=>cj λk=>os.countP<|on k z) (walls bx)=aK (λx=>cj λk=>(walls bx).countP (on k x)) os:=by rw[yX];let:∀k,aK (λz=>os.countP<|on k z) (walls bx)=aK (λx=>(walls bx).countP λz=>on k z x) os:=λk=>wG _ _ _;rw[show(cj λk=>aK (λz=>os.countP<|on k z)<|walls bx)=cj λk=>aK (λx=>(walls bx).countP λz=>on k z x) os from congrArg cj (funext this),<-yX];$(dQ λx _=>Lb _ x)
 let r1:aK (λx=>cj λk=>(os++walls bx).countP (on k x)) os=aK (λx=>cj λk=>os.countP<|nf k x) os+4*os.length:=by
  rw[dQ (g:=λx=>(cj λk=>os.countP<|nf k x)+4) λx b=>by
   delta cj;simp?[T.wY a b nd (k:=0) ⋯,T.wY a b nd (k:=1) ⋯,T.wY a b nd (k:=2) ⋯,T.wY a b nd (k:=3) ⋯]
   lia,kS,uW]
 let r2:aK (λx=>cj λk=>(os++walls bx).countP (on k x)) os=aK (λx=>cj λk=>os.countP<|on k x) os+aK (λx=>cj λk=>(walls bx).countP (on k x)) os:=by rw[<-kS];$(dQ λx _=>?_);delta cj;simp;lia
 lia
def gP (l:List α):List (α×α):=l.zip<|l.drop 1++l.take 1
def Fy(l:List α)(h:i<l.length):(l.drop 1++l.take 1)[i]?=l[(i+1)%l.length]?:=by
 ext(a:i+1<l.length)
 .rw[kH (by rw[tm];$_),ac6,aaf a,adA]
 let e:i+1=l.length:=⋯;rw[kq (by rw[tm];$_),e,acH,tm,show i-(l.length-1)=0 from by$_];simp
def IQ(l:List α):(l.drop 1++l.take 1).length=l.length:=by simp?[eR,tm,iW];lia
theorem Gf{l:List α}{n m:α}:(n,m)∈gP l↔bS l n m:=by
 delta gP bS;constructor
 .ext h;let(i,b,e):=kA h;let hl:i<l.length:=by grind
  let e:(l.zip<|l.drop 1++l.take 1)[i]?=al (n,m):=by rw[bt b,e]
  rw[ab7]at e;$({i,e.1,by rw[<-Fy l hl];$(e.2)})
 ext⟨i,a,c⟩;let hl:=(cn.1 a).1;$(eH (i:=i) ?_);rw[ab7];$({a,by rw[Fy l hl];$c})
def zh(l:List α):(gP l).map (·.1)=l:=by$(List.map_fst_zip (by rw[IQ];$(eT _)))
def Q3(l:List α):(gP l).map (·.2)=l.drop 1++l.take 1:=by$(afT (by rw[IQ];$(eT _)))
def JF(l:List α):(gP l).length=l.length:=by let:=congrArg List.length<|zh l;simp!
def U0(l:List α):(l.drop 1++l.take 1).Perm l:=List.perm_append_comm.trans (by rw[R'])
end
structure iL {α:Type}(rooms walls:List α) (ring:α->List α):Prop where
 ku:rooms.Nodup
 gY:∀x∈rooms,x∉walls
 nd:∀x∈rooms,(ring x).Nodup
 len:∀x∈rooms,3<=(ring x).length
 mem:∀x∈rooms,∀y∈ring x,y∈rooms\/y∈walls
 gB:∀x∈rooms,x∉ring x
 sym:∀x∈rooms,∀y∈rooms,y∈ring x->x∈ring y
 lA:∀x∈rooms,∀n m,bS (ring x) n m->n∈rooms->bS (ring n) m x
 lZ:∀x∈rooms,∀n m,bS (ring x) n m->m∈rooms->bS (ring m) x n
structure Order {α:Type}(lt:α->α->Bool):Prop where
 gB:∀a,lt a a=bn
 tr:∀a b c,lt a b=bi->lt b c=bi->lt a c=bi
 cp:∀a b,a≠b->lt a b=bi\/lt b a=bi
section
variable{α:Type}{rooms walls:List α}{ring:α->List α}
theorem bS.mem{l:List α}{n m:α}(h:bS l n m):n∈l/\m∈l:=by let(i,a,b):=h;$({eH a,eH b})
def rP{l:List α}(nd:l.Nodup){i j:Nat}{a:α}(d:l[i]?=al a)(e:l[j]?=al a):i=j:=by
 let(b,e1):=cn.1 d;let(c,e2):=cn.1 e;let h||h||h:=acg i j
 .let:=pA.1 nd i j b c h;simp!
 .$h
 let:=pA.1 nd j i c b h;simp!
def bS.ne (nd:l.Nodup)(hl:3<=l.length)(h:bS l n m):n≠m:=by
 ext rfl;let(i,a,b):=h;let hi:=(cn.1 a).1;let:=rP nd a b;ext(c:i+1<l.length)
 .rw[aaf c]at this;lia
 rw[show i+1=l.length from by lia,acH]at this;lia
def bS.asymm (nd:l.Nodup)(hl:3<=l.length)(h:bS l n m)(h':bS l m n):False:=by
 let(i,b,e):=h;let(j,c,f):=h';let g:=(cn.1 b).1;let k:=(cn.1 c).1;let o:=rP nd c e;let p:=rP nd b f;let d:∀a,a<l.length->(a+1)%l.length=if a+1=l.length then 0 else a+1:=λa ha=>by
  split
  .ext1 h;rw[h,acH]
  exact aaf (by lia)
 rw[d i g]at o;rw[d j k]at p;lia
def corners(rooms:List α)(ring:α->List α):List (α×α×α):=rooms.flatMap λx=>(gP<|ring x).map λp=>(x,p.1,p.2)
theorem gp{x n m:α}:(x,n,m)∈corners rooms ring↔x∈rooms/\bS (ring x) n m:=by
 delta corners;rw[hY];constructor
 .ext⟨y,a,h⟩;let(p,b,e):=ae.1 h;$$$e;$({a,Gf.1 b})
 ext⟨c,h⟩;$({x,c,ae.2 {(n,m),Gf.2 h,ρ}})
theorem y9 (f:a->List c)(p:c->Bool):∀l:List a,(l.flatMap f).countP p=aK (λb=>(f b).countP p) l
 |[]=>rfl
 |b::l=>by simp[y9 f p l];rfl
theorem mo(C:iL rooms walls ring):(corners rooms ring).Nodup:=by
 let key:∀l:List α,l.Nodup->(∀x∈l,(ring x).Nodup)->(corners l ring).Nodup:=by
  ext l;induction l with
  |nil=>$(λ_ _=>aaL)
  |cons a l f =>
   ext c d;rw[qo]at c;let e:corners (a::l) ring=((gP<|ring a).map λp=>(a,p.1,p.2))++corners l ring:=by rfl
   rw[e,ka];$({?_,f c.2 λx g=>d x (by simp[g]),?_})
   .let h:(gP<|ring a).Nodup:=by let:=d a ⋯;rw[<-zh (ring a)]at this;$((gd.1 this).imp λb e=>b (by rw[e]))
    $(gd.2 (h.imp λb e=>b ?_));simp!
   grind [gp]
 $(key rooms C.ku C.nd)
def count_map{c:Type}{l d:List c}(nd:l.Nodup)(f:d.Nodup){g:c->c}(inj:∀a∈l,∀b∈l,g a=g b->a=b)(h:∀b,b∈d↔∃a∈l,g a=b)(p:c->Bool):d.countP p=l.countP λa=>p (g a):=by
 let pm:d.Perm (l.map g):=(iR f<|gd.2 (nd.imp_of_mem λj k i e=>i<|inj _ j _ k e)).2 λb=>by rw[h b,ae]
 rw[pm.countP_eq,qp];rfl
end
section
variable{α:Type}[DecidableEq α]{rooms walls:List α}{ring:α->List α}{lt:α->α->Bool}
def ax(rooms:List α)(a:α):Bool:=bd<|a∈rooms
def canon(rooms:List α)(lt:α->α->Bool)(c:α×α×α):Bool:=(!ax rooms c.2.1||lt c.1 c.2.1)&&(!ax rooms c.2.2||lt c.1 c.2.2)
def g3(c:α×α×α):α×α×α:=(c.2.1,c.2.2,c.1)
def Ci (h:g3 a=g3 b):a=b:=by grind [g3]
theorem Df:∀{l:List f},(∀a∈l,(p a=bi/\q a=bn/\s a=bn)\/(p a=bn/\q a=bi/\s a=bn)\/(p a=bn/\q a=bn/\s a=bi))->l.countP p+l.countP q+l.countP s=l.length
 |[],_=>rfl
 |a::l,h=>by let:=Df (l:=l) λb g=>h b (by simp[g]);simp[ma];let(c,d,e)||(c,d,e)||(c,d,e):=h a ⋯<;>rw[c,d,e]<;>simp<;>lia
theorem HM:∀{l:List c},(∀a∈l,(p a=bi/\q a=bn)\/(p a=bn/\q a=bi))->l.countP p+l.countP q=l.length
 |[],_=>rfl
 |a::l,h=>by let:=HM (l:=l) λb f=>h b (by simp[f]);simp[ma];let(d,e)||(d,e):=h a ⋯<;>rw[d,e]<;>simp<;>lia
theorem Order.kE(O:Order lt)(h:lt a b=bi):lt b a=bn:=by
 cases e:lt b a with
 |false=>rfl
 |true=>let:=O.tr a b a h e;rw[O.gB]at this;$$$this
def iL.apart(C:iL rooms walls ring)(a:x∈rooms)(h:bS (ring x) n m):x≠n/\x≠m/\n≠m:=by let:=h.mem;$({λe=>C.gB x a<|e ▸ this.1,λe=>C.gB x a<|e ▸ this.2,h.ne (C.nd x a)<|C.len x a})
def qw (p q:b->Bool)(l:List b):(l.filter p).countP q=l.countP λa=>p a&&q a:=by simp[List.countP_filter,ac2]
def iL.least(C:iL rooms walls ring)(O:Order lt):3*(corners rooms ring).countP (canon rooms lt)=aK (λx=>(ring x).countP (ax rooms)) rooms+2*aK (λx=>(ring x).countP λy=>!ax rooms y) rooms+(corners rooms ring).countP λc=>!ax rooms c.2.1&&!ax rooms c.2.2:=by
 let k:=mo C;generalize o:corners rooms ring=cs at *;let mem:∀{x n m:α},(x,n,m)∈cs↔x∈rooms/\bS (ring x) n m:=λ{x n m}=>by rw[<-o];$gp
 let I:∀p:α->Bool,(cs.countP λc=>p c.2.1)=aK (λx=>(ring x).countP p) rooms:=λp=>by rw[<-o];delta corners;rw[y9];$(dQ λx _=>?_);rw[qp];let:=congrArg (ae0 p)<|zh<|ring x;rwa[qp]at this
 let D:∀p:α->Bool,(cs.countP λc=>p c.2.2)=aK (λx=>(ring x).countP p) rooms:=λp=>by rw[<-o];delta corners;rw[y9];$(dQ λx _=>?_);rw[qp];let:=congrArg (ae0 p)<|Q3<|ring x;simp?[qp,(U0<|ring x).countP_eq]at this;$this
 let J:=jv (λc:α×α×α=>ax rooms c.2.1) (λc=>ax rooms c.2.2) cs;let F:=jv (λc:α×α×α=>!ax rooms c.2.2) (λc=>ax rooms c.2.1) cs;rw[I (ax rooms)]at J;rw[D (λy=>!ax rooms y)]at F;let K:(cs.countP λc=>ax rooms c.2.2&&ax rooms c.2.1)=cs.countP λc=>ax rooms c.2.1&&ax rooms c.2.2:=by congr 1;funext c;$(ac2 _ _)
 let L:(cs.countP λc=>!ax rooms c.2.2&&ax rooms c.2.1)=cs.countP λc=>ax rooms c.2.1&&!ax rooms c.2.2:=by congr 1;funext c;$(ac2 _ _)
 let M:(cs.countP λc=>!ax rooms c.2.2&&!ax rooms c.2.1)=cs.countP λc=>!ax rooms c.2.1&&!ax rooms c.2.2:=by congr 1;funext c;$(ac2 _ _)
 simp?[L,M]at F;let k1:=jv (canon rooms lt) (λc=>ax rooms c.2.1) cs;let k2:=jv (λc=>canon rooms lt c&&ax rooms c.2.1) (λc=>ax rooms c.2.2) cs;let k3:=jv (λc=>canon rooms lt c&&!ax rooms c.2.1) (λc=>ax rooms c.2.2) cs;let N:(cs.countP λa=>canon rooms lt a&&ax rooms a.2.1&&ax rooms a.2.2)=cs.countP λa=>(ax rooms a.2.1&&ax rooms a.2.2)&&(lt a.1 a.2.1&&lt a.1 a.2.2):=by congr 1;funext c;delta canon;cases ax rooms c.2.1<;>cases ax rooms c.2.2<;>simp
 let P:(cs.countP λa=>canon rooms lt a&&ax rooms a.2.1&&!ax rooms a.2.2)=cs.countP λa=>(ax rooms a.2.1&&!ax rooms a.2.2)&&lt a.1 a.2.1:=by congr 1;funext c;delta canon;cases ax rooms c.2.1<;>cases ax rooms c.2.2<;>simp
 let Q:(cs.countP λa=>canon rooms lt a&&!ax rooms a.2.1&&ax rooms a.2.2)=cs.countP λa=>(!ax rooms a.2.1&&ax rooms a.2.2)&&lt a.1 a.2.2:=by congr 1;funext c;delta canon;cases ax rooms c.2.1<;>cases ax rooms c.2.2<;>simp
 let R:(cs.countP λa=>canon rooms lt a&&!ax rooms a.2.1&&!ax rooms a.2.2)=cs.countP λa=>!ax rooms a.2.1&&!ax rooms a.2.2:=by congr 1;funext c;delta canon;cases ax rooms c.2.1<;>cases ax rooms c.2.2<;>simp
 simp?[N,P]at k2;simp?[Q,R]at k3;let S3:3*(cs.countP λa=>(ax rooms a.2.1&&ax rooms a.2.2)&&(lt a.1 a.2.1&&lt a.1 a.2.2))=cs.countP λc=>ax rooms c.2.1&&ax rooms c.2.2:=by
  let i:(cs.filter λc=>ax rooms c.2.1&&ax rooms c.2.2).Nodup:=md qh k;let j:∀{x n m:α},(x,n,m)∈cs.filter (λc=>ax rooms c.2.1&&ax rooms c.2.2)↔(x∈rooms/\bS (ring x) n m)/\n∈rooms/\m∈rooms:=λ{x n m}=>by rw[hG,mem];dsimp[ax];simp
  let r:∀b,b∈cs.filter (λc=>ax rooms c.2.1&&ax rooms c.2.2)↔∃a∈cs.filter (λc=>ax rooms c.2.1&&ax rooms c.2.2),g3 a=b:=by
   ext⟨x,n,m⟩;constructor
   .ext h;let((d,s),f,hm):=j.1 h;$({(m,x,n),j.2 {{hm,C.lZ x d n m s hm},d,f},ρ})
   ext⟨⟨S,T,U⟩,h,e⟩;$$$e;let((d,s),f,hm):=j.1 h;$(j.2 {{f,C.lA _ d _ _ s f},hm,d})
  let t:=count_map i i (λa _ b _ h=>Ci h) r λa=>lt a.1 a.2.1&&lt a.1 a.2.2;let V:=count_map i i (λa _ b _ h=>Ci h) r λa=>lt (g3 a).1 (g3 a).2.1&&lt (g3 a).1 (g3 a).2.2
  let z:=Df (p:=λa=>lt a.1 a.2.1&&lt a.1 a.2.2) (q:=λa=>lt (g3 a).1 (g3 a).2.1&&lt (g3 a).1 (g3 a).2.2) (s:=λa=>lt (g3<|g3 a).1 (g3<|g3 a).2.1&&lt (g3<|g3 a).1 (g3<|g3 a).2.2) (by
   ext⟨x,n,m⟩ h;let((d,s),f,hm):=j.1 h;let(A,W,X):=C.apart d s;show((lt x n&&lt x m)=bi/\(lt n m&&lt n x)=bn/\(lt m x&&lt m n)=bn)\/((lt x n&&lt x m)=bn/\(lt n m&&lt n x)=bi/\(lt m x&&lt m n)=bn)\/((lt x n&&lt x m)=bn/\(lt n m&&lt n x)=bn/\(lt m x&&lt m n)=bi);let g||g:=O.cp x n A<;>let u||u:=O.cp x m W<;>let v||v:=O.cp n m X<;>let Y:=O.kE g<;>let G:=O.kE u<;>let H:=O.kE v<;>simp[g,u,v,Y,G,H]
   .let:=O.tr x n m g v;rw[G]at this;$$$this
   let:=O.tr n x m g u;rw[H]at this;$$$this)
  simp?[<-V,<-t]at z;rw[<-wy]at z;rw[qw]at z;lia
 let S2:(cs.countP λa=>(ax rooms a.2.1&&!ax rooms a.2.2)&&lt a.1 a.2.1)+(cs.countP λa=>(!ax rooms a.2.1&&ax rooms a.2.2)&&lt a.1 a.2.2)=cs.countP λc=>ax rooms c.2.1&&!ax rooms c.2.2:=by
  let i:(cs.filter λc=>ax rooms c.2.1&&!ax rooms c.2.2).Nodup:=md qh k;let B:(cs.filter λc=>!ax rooms c.2.1&&ax rooms c.2.2).Nodup:=md qh k;let j:∀{x n m:α},(x,n,m)∈cs.filter (λc=>ax rooms c.2.1&&!ax rooms c.2.2)↔(x∈rooms/\bS (ring x) n m)/\n∈rooms/\m∉rooms:=λ{x n m}=>by rw[hG,mem];dsimp[ax];simp
  let w:∀{x n m:α},(x,n,m)∈cs.filter (λc=>!ax rooms c.2.1&&ax rooms c.2.2)↔(x∈rooms/\bS (ring x) n m)/\n∉rooms/\m∈rooms:=λ{x n m}=>by rw[hG,mem];dsimp[ax];simp
  let r:∀b,b∈cs.filter (λc=>!ax rooms c.2.1&&ax rooms c.2.2)↔∃a∈cs.filter (λc=>ax rooms c.2.1&&!ax rooms c.2.2),g3 a=b:=by
   ext⟨x,n,m⟩;constructor
   .ext h;let((d,s),f,hm):=w.1 h;$({(m,x,n),j.2 {{hm,C.lZ x d n m s hm},d,f},ρ})
   ext⟨⟨S,T,U⟩,h,e⟩;$$$e;let((d,s),f,hm):=j.1 h;$(w.2 {{f,C.lA _ d _ _ s f},hm,d})
  let t:=count_map i B (λa _ b _ h=>Ci h) r λa=>lt a.1 a.2.2;simp[qw]at t;rw[t,<-qw,<-qw,wy (l:=cs)];apply HM;ext⟨x,n,m⟩ h;let((d,s),f,hm):=j.1 h;let(A,_,_):=C.apart d s;show(lt x n=bi/\lt n x=bn)\/(lt x n=bn/\lt n x=bi);let g||g:=O.cp x n A
  .$(ι {g,O.kE g})
  $(τ {O.kE g,g})
 lia
def jK:canon rooms lt (x,n,m)=bi↔(n∈rooms->lt x n=bi)/\(m∈rooms->lt x m=bi):=by dsimp[canon,ax];ext(a:n∈rooms)<;>ext(b:m∈rooms)<;>simp[a,b]
def XH (h:[a,b].Perm [c,d]):(a=c/\b=d)\/(a=d/\b=c):=by
 let e:a=c\/a=d:=by$$$$(h.mem_iff.1 (show a∈[a,b]by simp))
 let rfl||rfl:=e
 .simp!
 exact τ {ρ,by$$$$((h.trans<|afe _ _ _).cons_inv)}
def iL.threes(C:iL rooms walls ring)(O:Order lt){B:Type}{key:α×α×α->B}(E:∀c∈corners rooms ring,∀b∈corners rooms ring,key c=key b↔[c.1,c.2.1,c.2.2].Perm [b.1,b.2.1,b.2.2]){D:List B}(nd:D.Nodup)(R:∀k,k∈D↔∃c∈corners rooms ring,key c=k) :
  D.length=(corners rooms ring).countP (canon rooms lt):=by
 let F:=mo C;let inj:∀c∈(corners rooms ring).filter (canon rooms lt),∀b∈(corners rooms ring).filter (canon rooms lt),key c=key b->c=b:=by
  ext⟨x,n,m⟩ h ⟨j,y,A⟩ h' e;let(d,hl):=hG.1 h;let(v,G):=hG.1 h';let p:=(E _ d _ v).1 e;let(g,s):=gp.1 d;let(l,s'):=gp.1 v;let(H,I):=jK.1 hl;let(J,K):=jK.1 G;let ex:x=j:=by
   let S:x=j\/x=y\/x=A:=by$$$$(p.mem_iff.1 (show x∈[x,n,m]by simp))
   let L:j=x\/j=n\/j=m:=by$$$$(p.mem_iff.2 (show j∈[j,y,A]by simp))
   let h||h||h:=S
   .$h
   .let q:=J<|h ▸ g;rw[<-h]at q;let k||k||k:=L
    .$k.symm
    .let:=H<|k ▸ l;rw[<-k,O.kE q]at this;lk
    let:=I<|k ▸ l;rw[<-k,O.kE q]at this;lk
   let q:=K<|h ▸ g;rw[<-h]at q;let k||k||k:=L
   .$k.symm
   .let:=H<|k ▸ l;rw[<-k,O.kE q]at this;lk
   let:=I<|k ▸ l;rw[<-k,O.kE q]at this;lk
  $$ex;let(rfl,rfl)||(rfl,rfl):=XH (show[n,m].Perm [y,A]from p.cons_inv)
  .rfl
  $((s.asymm (C.nd x g) (C.len x g) s').elim)
 let pm:D.Perm (((corners rooms ring).filter (canon rooms lt)).map key):=(iR nd<|gd.2 ((md qh F).imp_of_mem λT U M e=>M<|inj _ T _ U e)).2 λk=>by
  rw[R k,ae];constructor
  .ext⟨⟨x,n,m⟩,d,rfl⟩;let(g,s):=gp.1 d;let(N,P,V):=C.apart g s;let put:∀b,b∈corners rooms ring->canon rooms lt b=bi->[b.1,b.2.1,b.2.2].Perm [x,n,m]->∃a∈(corners rooms ring).filter (canon rooms lt),key a=key (x,n,m):=λb Q W X=>{b,hG.2 ⟨Q,W⟩,(E _ Q _ d).2 X};let pn:=abm (l₁:=[n,m]) (l₂:=[x]);let o:=abm (l₁:=[m]) (l₂:=[x,n]);let w:n∈rooms->(n,m,x)∈corners rooms ring:=λh=>gp.2 {h,C.lA x g n m s h};let r:m∈rooms->(m,x,n)∈corners rooms ring:=λh=>gp.2 {h,C.lZ x g n m s h};ext(t:n∈rooms)<;>ext(hm:m∈rooms)
   .let f||f:=O.cp x n N
    .let i||i:=O.cp x m P
     .$(put _ d (jK.2 {λ_=>f,λ_=>i})<|List.Perm.refl _)
     $(put _ (r hm) (jK.2 {λ_=>i,λ_=>O.tr m x n i f}) o)
    let u||u:=O.cp n m V
    .$(put _ (w t) (jK.2 {λ_=>u,λ_=>f}) pn)
    $(put _ (r hm) (jK.2 {λ_=>O.tr m n x u f,λ_=>u}) o)
   .let f||f:=O.cp x n N
    .$(put _ d (jK.2 {λ_=>f,λz=>absurd z hm})<|List.Perm.refl _)
    $(put _ (w t) (jK.2 {λz=>absurd z hm,λ_=>f}) pn)
   .let i||i:=O.cp x m P
    .$(put _ d (jK.2 {λz=>absurd z t,λ_=>i})<|List.Perm.refl _)
    $(put _ (r hm) (jK.2 {λ_=>i,λz=>absurd z t}) o)
   $(put _ d (jK.2 {λz=>absurd z t,λz=>absurd z hm})<|List.Perm.refl _)
  ext⟨c,d,rfl⟩;$({c,(hG.1 d).1,ρ})
 rw[pm.length_eq,a8,wy]
end
section
variable{bx:Ob}{os:List Ob}{x n m:Ob}
def aH.closed(T:aH bx os)(b:bx.ok)(nd:(os++walls bx).Nodup):iL os (walls bx) (bC<|os++walls bx) where
 ku:=(ka.1 nd).1
 gY:=λx a hw=>(ka.1 nd).2.2 x a x hw ρ
 nd:=λx a=>T.u4 b a nd
 len:=λx a=>by let n1:=pB.2 (T.chain b a nd (k:=1) ⋯).1;let n2:=pB.2 (T.chain b a nd (k:=2) ⋯).1;let n3:=pB.2 (T.chain b a nd (k:=3) ⋯).1;$$(bC);simp?[eR,eR];lia
 mem:=λx a y d=>eK.1 (jh.1 d).1
 gB:=λx a h=>by let(_,k,f,u):=jh.1 h;let ox:=oJ k<|Nb.ok T b<|ι a;simp![Up]
 sym:=λx a y d h=>by
  let(_,k,f,u):=jh.1 h;let e:=Hj x y k;let c:on (k+2) y x=bi:=by rw[<-e];$(decide_eq_true u)
  $(jh.2 {eK.2<|ι a,?_});ext(g:k+2<4)
  .$({k+2,g,of_decide_eq_true c})
  let i:on (k+2) y x=on (k-2) y x:=by rw[show k+2=(k-2)+4 from by$_];$(HL _ _ _)
  rw[i]at c;$({k-2,⋯,of_decide_eq_true c})
 lA:=λx a n m s j=>(T.F8 b a nd s).1 j
 lZ:=λx a n m s hm=>(T.F8 b a nd s).2 hm
def Jn(N)(x)(p):(bC N x).countP p=cj λk=>N.countP λz=>on k x z&&p z:=by
 let e:∀k,(bR N x k).countP p=N.countP λz=>on k x z&&p z:=λk=>by delta bR;simp?[(gk _ _).countP_eq,qw];rfl
 dsimp[bC,cj];simp?[qe,e,e,e,e]
def aH.Ea(T:aH bx os)(hp:bx.ok)(nd:(os++walls bx).Nodup)(x:Ob):(bC (os++walls bx) x).countP (ax os)=cj (λk=>os.countP<|on k x)/\((bC (os++walls bx) x).countP λy=>!ax os y)=cj λk=>(walls bx).countP (on k x):=by
 let gY:∀w∈walls bx,w∉os:=λw hw ho=>(ka.1 nd).2.2 w ho w hw ρ;let a:∀k,((os++walls bx).countP λz=>on k x z&&ax os z)=os.countP (on k x):=λk=>by
  rw[qe];let c:(os.countP λz=>on k x z&&ax os z)=os.countP (on k x):=z0 λz hz=>by simp![ax]
  let e2:((walls bx).countP λz=>on k x z&&ax os z)=0:=by rw[LS];ext w hw e;rw[e8]at e;$(gY w hw<|of_decide_eq_true e.2)
  lia
 let b:∀k,((os++walls bx).countP λz=>on k x z&&!ax os z)=(walls bx).countP (on k x):=λk=>by
  let c:((walls bx).countP λz=>on k x z&&!ax os z)=(walls bx).countP (on k x):=by simp![ax,z0]
  simp![ax]
 simp?[Jn];$({congrArg cj (funext a),congrArg cj<|funext b})
def aH.sums(T:aH bx os)(a:bx.ok)(nd:(os++walls bx).Nodup):aK (λx=>(bC (os++walls bx) x).countP (ax os)) os+2*aK (λx=>(bC (os++walls bx) x).countP λy=>!ax os y) os=6*os.length+2:=by rw[dQ (g:=λx=>cj λk=>os.countP<|on k x) λx _=>(T.Ea a nd x).1,dQ (g:=λx=>cj λk=>(walls bx).countP (on k x)) λx _=>(T.Ea a nd x).2];$(T.ties a nd)
def wI(hm:m∈walls bx)(i:bx.l<=x.l/\x.l<x.r/\x.r<=bx.r/\bx.b<=x.b/\x.b<x.t/\x.t<=bx.t)(u:Up (au<|au x) (au<|au m)):m=wS bx/\x.b=bx.b:=by
 let(c,i2,d,i4,i5,i6):=i;let(a,e,f):=u;simp[walls]at hm;let rfl||rfl||rfl||rfl:=hm
 .$(absurd (adV.1 (show -(bx.t+1)=-x.b from a)) (by lia))
 .$(absurd (ab5.1<|e)<|acL.2 d)
 .$({ρ,(adV.1<|a).symm})
 $(absurd (ab5.1<|f)<|acL.2 c)
def wM(hm:m∈walls bx)(i:bx.l<=x.l/\x.l<x.r/\x.r<=bx.r/\bx.b<=x.b/\x.b<x.t/\x.t<=bx.t)(u:Up (au<|au<|au x) (au<|au<|au m)):m=wW bx/\x.l=bx.l:=by
 let(i1,i2,i3,i4,i5,i6):=i;let(a,c,d):=u;dsimp[au]at a c d;simp[walls]at hm;let rfl||rfl||rfl||rfl:=hm<;>dsimp[wN,wE,wS,wW]at a c d
 .$_
 .$_
 .$_
 simp!
def aH.kF(T:aH bx os)(s:bx.ok)(u:x∈os)(i:n∈walls bx)(hm:m∈walls bx):cS x n m↔(n=wN bx/\m=wE bx/\x.t=bx.t/\x.r=bx.r)\/(n=wE bx/\m=wS bx/\x.r=bx.r/\x.b=bx.b)\/(n=wS bx/\m=wW bx/\x.b=bx.b/\x.l=bx.l)\/(n=wW bx/\m=wN bx/\x.l=bx.l/\x.t=bx.t):=by
 let h:=T.aU x u;have⟨q,v⟩:=s;constructor
 .ext⟨k,hk,f⟩;let w:k=0\/k=1\/k=2\/k=3:=⋯;let rfl||rfl||rfl||rfl:=w
  .let (un,g,e)||(un,j,g,em):=f
   .rw[(lH i h un).1,(lH hm h g).1]at e;$(absurd (e)<|Int.ne_of_gt q)
   let(a,b):=lH i h un;let(c,d):=nq hm h g;$(ι ⟨a,c,b,d⟩)
  .let (un,g,e)||(un,j,g,em):=f
   .rw[(nq i h un).1,(nq hm h g).1]at e;$(absurd (adV.1<|e)<|ahq v)
   let(a,b):=nq i h un;let(c,d):=wI hm h g;$(τ<|ι ⟨a,c,b,d⟩)
  .let (un,g,e)||(un,j,g,em):=f
   .rw[(wI i h un).1,(wI hm h g).1]at e;$(absurd (adV.1<|e)<|ahq q)
   let(a,b):=wI i h un;let(c,d):=wM hm h g;$(τ<|τ<|ι ⟨a,c,b,d⟩)
  let(un,g,e)||(un,j,g,em):=f
  .rw[(wM i h un).1,(wM hm h g).1]at e;dsimp[af,au,wW]at e;lia
  let(a,b):=wM i h un;let g:Up (au<|au<|au<|au x) (au<|au<|au<|au m):=g;rw[pX,pX]at g;let(c,d):=lH hm h g;$(τ<|τ<|τ ⟨a,c,b,d⟩)
 ext (⟨rfl,rfl,o,p⟩|⟨rfl,rfl,o,p⟩|⟨rfl,rfl,o,p⟩|⟨rfl,rfl,o,p⟩)
 .$({0,⋯,τ (by dsimp[Up,af,au,wN,wE];$_)})
 .$({1,⋯,τ (by dsimp[Up,af,au,wS,wE];$_)})
 .$({2,⋯,τ (by dsimp[Up,af,au,wS,wW];$_)})
 $({3,⋯,τ (by dsimp[Up,af,au,wN,wW];$_)})
end
section
variable{α:Type}[DecidableEq α]{rooms walls:List α}{ring:α->List α}{lt:α->α->Bool}
def Eb{l d:List α}(nd:l.Nodup)(e:d.Nodup)(p:α->Bool):(l.countP λy=>bd (y∈d)&&p y)=d.countP λy=>bd (y∈l)&&p y:=by
 simp[wy];$(List.Perm.length_eq ((iR (md qh nd)<|md qh e).2 λy=>?_));simp;constructor
 .ext⟨a,b,c⟩;$(⟨b,a,c⟩)
 simp!
def iL.half(C:iL rooms walls ring)(O:Order lt):2*aK (λx=>(ring x).countP λy=>ax rooms y&&lt x y) rooms=aK (λx=>(ring x).countP (ax rooms)) rooms:=by
 let a:∀x∈rooms,((ring x).countP λy=>ax rooms y&&lt x y)=rooms.countP λy=>bd (y∈ring x)&&lt x y:=λx c=>Eb (C.nd x c) C.ku<|lt x;let b:∀x∈rooms,(ring x).countP (ax rooms)=rooms.countP λy=>bd (y∈ring x):=λx c=>by let:=Eb (C.nd x c) C.ku λ_=>true;simp?[Bool.and_true]at this;$this
 rw[dQ a,dQ b];let s:aK (λx=>rooms.countP λy=>bd (y∈ring x)&&lt x y) rooms=aK (λy=>rooms.countP λx=>bd (x∈ring y)&&lt x y) rooms:=by rw[wG λx y=>bd (y∈ring x)&&lt x y];$(dQ λy f=>z0 λx c=>?_);let:(y∈ring x)↔(x∈ring y):={λh=>C.sym x c y f h,λh=>C.sym y f x c h};simp!
 let t:aK (λx=>rooms.countP λy=>bd<|y∈ring x) rooms=aK (λx=>rooms.countP λy=>bd (y∈ring x)&&lt x y) rooms+aK (λx=>rooms.countP λy=>bd (y∈ring x)&&lt y x) rooms:=by
  rw[<-kS];$(dQ λx c=>?_);simp?[jv (λy=>bd<|y∈ring x) (λy=>lt x y)]
  congr 1;$(z0 λy f=>?_)
  simp?[e8,decide_eq_true_eq,pe];constructor
  .ext⟨d,g⟩;$({d,?_});let ne:x≠y:=λe=>C.gB x c (e ▸ d);let h||h:=O.cp x y ne;simp!;$h
  ext⟨d,g⟩;$({d,O.kE g})
 lia
end
section
variable{bx:Ob}{os:List Ob}{lt:Ob->Ob->Bool}{x y n m p w:Ob}
def aH.mF(T:aH bx os){p q:Int}(e:bx.l<=p)(f:p<bx.r)(g:bx.b<=q)(i:q<bx.t){P:Ob->Prop}(j:∀o,(bx.l<=o.l/\o.l<o.r/\o.r<=bx.r/\bx.b<=o.b/\o.b<o.t/\o.t<=bx.t)->(P o↔o.l<=p/\p<o.r/\o.b<=q/\q<o.t)):∃x∈os,∀y∈os,P y↔y=x:=by
 let(x,c,k):=T.hit p q e f g i;$({x,c,λy d=>?_});rw[j y (T.aU y d)];constructor
 .$(λh=>(T.ap y d x c).resolve_right λa=>?_);grind [Apart]
 ext rfl;$k
def aH.Qn(T:aH bx os)(d:bx.ok)(nd:(os++walls bx).Nodup):((corners os<|bC<|os++walls bx).countP λc=>!ax os c.2.1&&!ax os c.2.2)=4:=by
 let C:=T.closed d nd;let G:=d;unfold Ob.ok at G;let(L,h0,H):=T.mF (p:=bx.r-1) (q:=bx.t-1) (P:=λx=>x.t=bx.t/\x.r=bx.r) (by lia) (by lia) (by lia) (by lia)<|λo i=>⋯;let(M,A,I):=T.mF (p:=bx.r-1) (q:=bx.b) (P:=λx=>x.r=bx.r/\x.b=bx.b) (by lia) (by lia) (by lia) ⋯ (λo i=>⋯);let(N,B,J):=T.mF (p:=bx.l) (q:=bx.b) (P:=λx=>x.b=bx.b/\x.l=bx.l) (by lia) ⋯ (by lia) ⋯ (λo i=>⋯);let(O,D,K):=T.mF (p:=bx.l) (q:=bx.t-1) (P:=λx=>x.l=bx.l/\x.t=bx.t) (by lia) ⋯ (by lia) (by lia) (λo i=>⋯);rw[wy];let Q:wN bx≠wE bx:=λe=>by let:=congrArg Ob.t e;simp?[wN,wE]at this;$_
 let R:wN bx≠wS bx:=λe=>by let:=congrArg Ob.b e;simp?[wN,wS]at this;$_
 let S:wN bx≠wW bx:=λe=>by let:=congrArg Ob.t e;simp?[wN,wW]at this;$_
 let U:wE bx≠wS bx:=λe=>by let:=congrArg Ob.b e;simp?[wE,wS]at this;$_
 let V:wE bx≠wW bx:=λe=>by let:=congrArg Ob.l e;simp?[wE,wW]at this;$_
 let W:wS bx≠wW bx:=λe=>by let:=congrArg Ob.b e;simp?[wS,wW]at this;$_
 let pm:((corners os<|bC<|os++walls bx).filter λc=>!ax os c.2.1&&!ax os c.2.2).Perm [(L,wN bx,wE bx),(M,wE bx,wS bx),(N,wS bx,wW bx),(O,wW bx,wN bx)]:=by
  $((iR (md qh<|mo C) ?_).2 ?_)
  .simp?[qo,eW,gW,or_false,ad8,not_or,not_and];refine{{λ_ h=>absurd h Q,λ_ h=>absurd h R,λ_ h=>absurd h S},{λ_ h=>absurd h U,λ_ h=>absurd h V},λ_ h=>absurd h W,not_false,aaL}
  ext⟨x,n,m⟩;let g:∀{o:Ob},o∈walls bx->o∉os:=λ{o} hw ho=>(ka.1 nd).2.2 o ho o hw ρ;rw[hG,gp];simp?[ax,e8,pe,decide_eq_false_iff_not,eW,gW,or_false,ad8];constructor
  .ext⟨⟨j,s⟩,X,hm⟩;let E:n∈walls bx:=(C.mem x j n s.mem.1).resolve_left X;let F:m∈walls bx:=(C.mem x j m s.mem.2).resolve_left hm;let f:=(T.kF d j E F).1 ((T.fg d j nd (τ E)<|τ F).1 s);let(a,b,c)||(a,b,c)||(a,b,c)||(a,b,c):=f
   .$(ι {(H x j).1 c,a,b})
   .$(τ<|ι ⟨(I x j).1 c,a,b⟩)
   .$(τ<|τ<|ι ⟨(J x j).1 c,a,b⟩)
   $(τ<|τ<|τ ⟨(K x j).1 c,a,b⟩)
  let k:wN bx∈walls bx:=by simp[walls]
  let u:wE bx∈walls bx:=by simp[walls]
  let v:wS bx∈walls bx:=by simp[walls]
  let z:wW bx∈walls bx:=by simp[walls]
  ext (⟨rfl,rfl,rfl⟩|⟨rfl,rfl,rfl⟩|⟨rfl,rfl,rfl⟩|⟨rfl,rfl,rfl⟩)
  .$({{h0,(T.fg d h0 nd (τ k)<|τ u).2 ((T.kF d h0 k u).2 (ι {ρ,ρ,(H _ h0).2 ρ}))},g k,g u})
  .$({{A,(T.fg d A nd (τ u)<|τ v).2 ((T.kF d A u v).2 (τ<|ι ⟨ρ,ρ,(I _ A).2 ρ⟩))},g u,g v})
  .$({{B,(T.fg d B nd (τ v)<|τ z).2 ((T.kF d B v z).2 (τ<|τ<|ι ⟨ρ,ρ,(J _ B).2 ρ⟩))},g v,g z})
  $({{D,(T.fg d D nd (τ z)<|τ k).2 ((T.kF d D z k).2 (τ<|τ<|τ ⟨ρ,ρ,(K _ D).2 ρ⟩))},g z,g k})
 rw[pm.length_eq];rfl
inductive Row {α:Type}(rooms:List α) (ring:α->List α) (wall:α):α->List α->Prop
 |stop {a:α}:a∉rooms->Row rooms ring wall a []
 |go {a p:α}{l:List α}:a∈rooms->bS (ring a) p wall->Row rooms ring wall p l->Row rooms ring wall a (a::l)
def aH.before(T:aH bx os)(d:bx.ok)(b:x∈os)(nd:(os++walls bx).Nodup)(ht:x.t=bx.t):∃p,Nb bx os p/\cS x p (wN bx)/\((p∈os/\p.t=bx.t/\p.r=x.l)\/(p=wW bx/\x.l=bx.l)):=by
 let ix:=T.aU x b;let c:=d;unfold Ob.ok at c;ext(h:x.l=bx.l)
 .refine{wW bx,τ (by simp[walls]),{3,⋯,τ ?_},τ ⟨ρ,h⟩};simp![Up,af,au,wN,wW]
 -- the room to the left,at the top
 let(o,ho,k1,k2,k3,k4):=T.hit (x.l-1) (x.t-1) (by lia) ∅ ∅ (by lia);let io:=T.aU o ho;let ap:Apart o x:=by
  let e||a:=T.ap o ho x b
  .lia
  exact a
 unfold Apart at ap;$({o,ι ho,{3,⋯,τ ?_},⋯});simp?[Up,af,au,wN];lia
theorem aH.Sh(T:aH bx os)(j:bx.ok)(nd:(os++walls bx).Nodup):∀(k:Nat) (x:Ob),x∈os->x.t=bx.t->(x.l-bx.l).toNat<=k->∃l,Row os (bC<|os++walls bx) (wN bx) x l/\l.Nodup/\∀y,y∈l↔y∈os/\y.t=bx.t/\y.r<=x.r:=by
 ext k;induction k with
 |zero =>
  ext x d u C;let D:=T.aU x d;let(p,i,f,h):=T.before j d nd u;let v:Nb bx os (wN bx):=τ (by simp[walls]);let s:=(T.fg j d nd i v).2 f;let(g,o,A)||(g,o):=h
  .let:=T.aU p g;$_
  $$g;$({[x],.go d s (.stop λz=>(ka.1 nd).2.2 _ z _ (by simp[walls]) ρ),acr _ _,λy=>?_});rw[kn];constructor;simp!;ext⟨B,A,h4⟩;let E:=T.aU y B;$((T.ap y B x d).resolve_right λa=>?_);grind [Apart]
 |succ k F =>
  ext x d u C;let D:=T.aU x d;let(p,i,f,h):=T.before j d nd u;let v:Nb bx os (wN bx):=τ (by simp[walls]);let s:=(T.fg j d nd i v).2 f;let(g,o,A)||(g,o):=h
  .let ip:=T.aU p g;let(l,r,n,e):=F p g o ∅;$({x::l,.go d s r,qo.2 {λz=>?_,n},λy=>?_})
   .let:=((e x).1 z).2.2;$_
   rw[eW,e y];constructor;lia;ext⟨a,b,c⟩;let E:=T.aU y a;let e||q:=T.ap y a x d
   .$(ι e)
   grind [Apart]
  simp!
def reach [DecidableEq a](rooms walls:List a)(ring:a->List a):Nat->List a
 |0=>walls
 |k+1=>walls++rooms.filter λx=>(ring x).any λy=>bd<|y∈reach rooms walls ring k
theorem aH.reached(T:aH bx os)(c:bx.ok)(nd:(os++walls bx).Nodup):∀(k:Nat) (x:Ob),x∈os->(os.countP λy=>bd<|x.t<y.t)<k->x∈reach os (walls bx) (bC<|os++walls bx) k:=by
 ext k;induction k with
 |zero=>simp
 |succ k d =>
  ext x a h;let(ne,_):=T.chain c a nd (k:=0) ⋯;let(y,e):=aaX _ ne;let(b,u):=iJ.1 e;let f:=jh.2 {b,0,⋯,u};$(eK.2<|τ<|hG.2 ⟨a,zc.2 ⟨y,f,decide_eq_true ?_⟩⟩);let ho||hw:=eK.1 b
  .$(d y ho<|iN ?_<|rk h);let iy:=T.aU y ho;let hxy:x.t<y.t:=by let u:Up x y:=u;simp![Up]
   let sp:=jv (λz:Ob=>bd<|x.t<z.t) (λz=>bd<|y.t<z.t) os;let e1:(os.countP λz=>bd (x.t<z.t)&&bd (y.t<z.t))=os.countP λz=>bd (y.t<z.t):=z0 λz _=>by lia
   let e2:0<os.countP λz=>bd (x.t<z.t)&&!bd (y.t<z.t):=List.countP_pos_iff.2 {y,ho,by simp;$_};$_
  cases k with
  |zero=>$hw
  |succ k=>$(eK.2<|ι hw)
def aH.all_reached(T:aH bx os)(b:bx.ok)(nd:(os++walls bx).Nodup)(a:x∈os):x∈reach os (walls bx) (bC<|os++walls bx) os.length:=by apply T.reached b nd os.length x a;let c:=acO (p:=λy:Ob=>bd<|x.t<y.t) (l:=os);$(Nat.lt_of_le_of_ne c λe=>?_);let:=List.countP_eq_length.1 e x a;simp at this
inductive j4 (bx:Ob) (os:List Ob) (w:Ob):Ob->List Ob->Prop
 |stop {a:Ob}:a∉os->j4 bx os w a []
 |go {a p:Ob}{l:List Ob}:a∈os->Nb bx os p->cS a p w->j4 bx os w p l->j4 bx os w a (a::l)
theorem Row.toF(T:aH bx os)(b:bx.ok)(nd:(os++walls bx).Nodup)(h:Row os (bC<|os++walls bx) w a l):j4 bx os w a l:=by
 induction h with
 |stop h=>$(.stop h)
 | @go a p l h s _ c=>$(.go h (eK.1 (jh.1 s.mem.1).1) ?_ c);let(i,d,e):=s;$(T.x8 b h nd d e)
theorem j4.QD(T:aH bx os)(b:bx.ok)(nd:(os++walls bx).Nodup)(hw:Nb bx os w)(h:j4 bx os w a l):Row os (bC<|os++walls bx) w a l:=by
 induction h with
 |stop h=>$(.stop h)
 | @go a p l h c f _ d=>$(.go h ((T.fg b h nd c hw).2 f) d)
theorem j4.back(k)(i:k<4)(h:j4 (af k bx) (os.map<|af k) (af k w) (af k a) l):∃c,l=c.map (af k)/\j4 bx os w a c:=by
 generalize d:af k a=j at h;induction h generalizing a with
 |stop h=>$$d;$({[],ρ,.stop λz=>h<|ae.2 ⟨a,z,ρ⟩})
 | @go j o l h q f _ s=>$$d;let(p,rfl):=Bn k i o;let(c,e,r):=s ρ;let(b,g,t):=ae.1 h;rw[jo k t]at g;refine{a::c,by rw[e];rfl,.go g ((rG k).1 q) (cS.ups k f) r}
def wall(bx:Ob)(k:Nat):Ob:=if k=0 then wN bx else if k=1 then wE bx else if k=2 then wS bx else wW bx
def h9(bx)(k):wall bx k∈walls bx:=by
 delta wall;split
 .simp[walls]
 split
 .simp[walls]
 split<;>simp[walls]
def CM (hk:k<4):af k (wall bx k)=wN (af k bx):=by
 let a:k=0\/k=1\/k=2\/k=3:=by lia
 let rfl||rfl||rfl||rfl:=a
 .rfl
 rfl
 .let e:wall bx 2=wS bx:=ρ;rw[e];$(lU (by rfl) (by rfl) (by rfl) (by simp?[af,au,wN,wS];lia))
 let e:wall bx 3=wW bx:=ρ;rw[e];$(lU (by rfl) (by rfl) (by rfl) (by simp?[af,au,wN,wW]<;>lia))
def qv(bx:Ob)(k:Nat)(x:Ob):Prop:=(af k x).t=(af k bx).t
def aH.RU(nd:(os++walls bx).Nodup)(T:aH bx os)(g:bx.ok)(k:Nat):(os.map (af k)++walls (af k bx)).Nodup:=by
 rw[ka]at nd ⊢;$({vq k nd.1,?_,?_})
 .let d:=mS k g;unfold Ob.ok at d;generalize af k bx=c at d;simp?[walls,qo,eW,gW,or_false,not_or];$({{λe=>?_,λe=>?_,λe=>?_},{λe=>?_,λe=>?_},λe=>?_,not_false,aaL})
  .let:=congrArg Ob.t e;simp?[wN,wE]at this;$_
  .let:=congrArg Ob.b e;simp?[wN,wS]at this;$_
  .let:=congrArg Ob.t e;simp?[wN,wW]at this;$_
  .let:=congrArg Ob.b e;simp?[wE,wS]at this;$_
  .let:=congrArg Ob.l e;simp?[wE,wW]at this;$_
  let:=congrArg Ob.b e;simp?[wS,wW]at this;lia
 ext a h b f e;$$e;let i:=(T.turns k).aU a h;let f:a=wN (af k bx)\/a=wE (af k bx)\/a=wS (af k bx)\/a=wW (af k bx):=by simpa[walls]using f
 let rfl||rfl||rfl||rfl:=f<;>simp?[wN,wE,wS,wW]at i<;>$_
def aH.row(T:aH bx os)(j:bx.ok)(nd:(os++walls bx).Nodup)(s:k<4)(u:x∈os)(v:qv bx k x)(h2:(af k x).r=(af k bx).r):∃l,Row os (bC<|os++walls bx) (wall bx k) x l/\l.Nodup/\∀y,y∈l↔y∈os/\qv bx k y:=by
 let o:=T.turns k;let g:=mS k j;let h:=aH.RU nd T j k;let(l,r,n,e):=o.Sh g h _ (af k x) (ae.2 ⟨x,u,ρ⟩) v<|eT _;let f:=Row.toF o g h r;rw[<-CM s]at f;let(A,rfl,B):=j4.back k s f;$({A,B.QD T j nd<|τ<|h9 bx k,(gd.1 n).imp λt e=>t (by rw[e]),λy=>?_});constructor
 .ext d;let(a,b,c):=(e<|af k y).1 (ae.2 ⟨y,d,ρ⟩);let(z,hz,q):=ae.1 a;rw[jo k q]at hz;$(⟨hz,b⟩)
 ext⟨d,hw⟩;let i:=o.aU _<|ae.2 ⟨y,d,ρ⟩;let(z,hz,q):=ae.1 ((e<|af k y).2 {ae.2 ⟨y,d,ρ⟩,hw,⋯});rwa[jo k q]at hz
def aH.tied(T:aH bx os)(f:bx.ok)(b:y∈os)(c:k<4):wall bx k∈bC (os++walls bx) y↔qv bx k y:=by
 let i:=T.aU y b;rw[jh];delta qv;let g:k=0\/k=1\/k=2\/k=3:=by lia
 constructor
 .ext⟨_,j,hj,u⟩;let a:j=0\/j=1\/j=2\/j=3:=by lia
  delta Up at u;let rfl||rfl||rfl||rfl:=g
  .let e:wall bx 0=wN bx:=ρ;rw[e]at u;let rfl||rfl||rfl||rfl:=a<;>simp?[af,au,wN]at u ⊢<;>$_
  .let e:wall bx 1=wE bx:=ρ;rw[e]at u;let rfl||rfl||rfl||rfl:=a<;>simp?[af,au,wE]at u ⊢<;>$_
  .let e:wall bx 2=wS bx:=ρ;rw[e]at u;let rfl||rfl||rfl||rfl:=a<;>simp?[af,au,wS]at u ⊢<;>$_
  let e:wall bx 3=wW bx:=ρ;rw[e]at u;let rfl||rfl||rfl||rfl:=a<;>simp?[af,au,wW]at u ⊢<;>$_
 ext h;$({eK.2<|τ<|h9 bx k,k,c,?_});rw[CM c];let i':=(T.turns k).aU _ (ae.2 ⟨y,b,ρ⟩);dsimp[Up,wN];lia
def aH.first(T:aH bx os)(c:bx.ok)(nd:(os++walls bx).Nodup)(hk:k<4):∃x∈os,qv bx k x/\(af k x).r=(af k bx).r/\∀y∈os,bS (bC (os++walls bx) y) (wall bx k) (wall bx<|(k+1)%4)↔y=x:=by
 let g:=c;unfold Ob.ok at g;let key:∀y∈os,∀P:Prop,(cS y (wall bx k) (wall bx<|(k+1)%4)↔P)->(bS (bC (os++walls bx) y) (wall bx k) (wall bx<|(k+1)%4)↔P):=λy a P h=>by rwa[T.fg c a nd (τ<|h9 bx k) (τ<|h9 bx _)]
 let J:wN bx≠wE bx:=λe=>by let:=congrArg Ob.t e;grind [wN,wE]
 let K:wN bx≠wS bx:=λe=>by let:=congrArg Ob.b e;simp?[wN,wS]at this;$_
 let nW:wN bx≠wW bx:=λe=>by let:=congrArg Ob.t e;simp?[wN,wW]at this;lia
 let j:wE bx≠wS bx:=λe=>by let:=congrArg Ob.b e;simp?[wE,wS]at this;lia
 let L:wE bx≠wW bx:=λe=>by let:=congrArg Ob.l e;simp?[wE,wW]at this;$_
 let M:wS bx≠wW bx:=λe=>by let:=congrArg Ob.b e;simp?[wS,wW]at this;lia
 let s:wN bx∈walls bx:=by simp[walls]
 let u:wE bx∈walls bx:=by simp[walls]
 let v:wS bx∈walls bx:=by simp[walls]
 let z:wW bx∈walls bx:=by simp[walls]
 unfold qv;let N:k=0\/k=1\/k=2\/k=3:=by lia
 let rfl||rfl||rfl||rfl:=N
 .let(A,h0,B):=T.mF (p:=bx.r-1) (q:=bx.t-1) (P:=λx=>x.t=bx.t/\x.r=bx.r) (by lia) (by lia) (by lia) (by lia) (λo i=>⋯);let q:=(B A h0).2 ρ;$({A,h0,by simp?[af];lia,by simp?[af];lia,λy a=>key y a _<|(T.kF c a s u).trans ⟨λh=>?_,λh=>ι ⟨ρ,ρ,(B y a).2 h⟩⟩});simp!
 .let(C,D,d):=T.mF (p:=bx.r-1) (q:=bx.b) (P:=λx=>x.r=bx.r/\x.b=bx.b) (by lia) (by lia) (by lia) ∅ (λo i=>⋯);let q:=(d C D).2 ρ;$({C,D,by simp?[af,au];lia,by simp?[af,au];lia,λy a=>key y a _<|(T.kF c a u v).trans ⟨λh=>?_,λh=>τ<|ι ⟨ρ,ρ,(d y a).2 h⟩⟩});let(h,_)||(_,_,h)||(h,_)||(h,_):=h
  .cases J h.symm
  .exact (d y a).1 h
  .cases j h
  cases L h
 .let(E,F,f):=T.mF (p:=bx.l) (q:=bx.b) (P:=λx=>x.b=bx.b/\x.l=bx.l) (by lia) ∅ (by lia) ∅ (λo i=>⋯);let q:=(f E F).2 ρ;$({E,F,by simp?[af,au];lia,by simp?[af,au];lia,λy a=>key y a _<|(T.kF c a v z).trans ⟨λh=>?_,λh=>τ<|τ<|ι ⟨ρ,ρ,(f y a).2 h⟩⟩});let(h,_)||(h,_)||(_,_,h)||(h,_):=h
  .cases K h.symm
  .cases j h.symm
  .exact (f y a).1 h
  cases M h
 let(G,H,I):=T.mF (p:=bx.l) (q:=bx.t-1) (P:=λx=>x.l=bx.l/\x.t=bx.t) (by lia) ∅ (by lia) ∅ (λo i=>by$_);let q:=(I G H).2 ρ;$({G,H,by simp?[af,au];lia,by simp?[af,au];lia,λy a=>key y a _<|(T.kF c a z s).trans ⟨λh=>?_,λh=>τ<|τ<|τ ⟨ρ,ρ,(I y a).2 h⟩⟩});simp!
end
structure qO {α:Type} [DecidableEq α] (rooms:List α) (w:Nat->α) (ring:α->List α) (lt:α->α->Bool):Prop where
 C:iL rooms [w 0,w 1,w 2,w 3] ring
 U9:[w 0,w 1,w 2,w 3].Nodup
 ww:∀x∈rooms,∀j k,j<4->k<4->bS (ring x) (w j) (w k)->k=(j+1)%4
 row:∀k,k<4->∃x∈rooms,(∀y∈rooms,bS (ring y) (w k) (w<|(k+1)%4)↔y=x)/\∃l,Row rooms ring (w k) x l/\l.Nodup/\∀y,y∈l↔y∈rooms/\w k∈ring y
 all:∀x∈rooms,x∈reach rooms [w 0,w 1,w 2,w 3] ring rooms.length
 Jc:(corners rooms ring).countP (canon rooms lt)+rooms.length=aK (λx=>(ring x).countP λy=>!ax rooms y) rooms+aK (λx=>(ring x).countP λy=>ax rooms y&&lt x y) rooms+1
section
variable{α:Type}[DecidableEq α]{rooms rooms' walls:List α}{w:Nat->α}{ring ring':α->List α}{lt:α->α->Bool}
def i7(l a:List α):Prop:=∃A B,l=A++B/\a=B++A
theorem i7.perm{l a:List α}(h:i7 l a):a.Perm l:=by let(A,B,rfl,rfl):=h;$abm
def i7.symm (h:i7 l a):i7 a l:=by let(A,B,rfl,rfl):=h;$(⟨B,A,ρ,ρ⟩)
def i7.succ (h:i7 l b)(s:bS l n m):bS b n m:=by
 let(A,B,rfl,rfl):=h;let(i,c,a):=s;let d:=(cn.1 c).1;rw[eR]at d a;$$(bS);rw[eR];let get:∀j,j<A.length+B.length->(B++A)[(j+B.length)%(B.length+A.length)]?=(A++B)[j]?:=λj f=>by
  ext(hA:j<A.length)
  .rw[aaf ∅,kq ⋯,kH hA]
   congr 1;$_
  let e:(j+B.length)%(B.length+A.length)=j-A.length:=by rw[show j+B.length=(j-A.length)+(B.length+A.length)from by$_,Nat.add_mod_right,aaf ∅]
  rw[e,kH ∅,kq ∅]
 refine{(i+B.length)%(B.length+A.length),by rw[get i d];$c,?_};let f:(i+1)%(A.length+B.length)<A.length+B.length:=aat _ ∅;rw[<-get _ f]at a;simp[<-a];congr 1;let g:((i+B.length)%(B.length+A.length)+1)%(B.length+A.length)=(i+B.length+1)%(B.length+A.length):=by rw[ahN,Nat.mod_mod,<-ahN]
 let k:((i+1)%(A.length+B.length)+B.length)%(B.length+A.length)=(i+1+B.length)%(B.length+A.length):=by simp[adA]
 simp[k];congr 1
 lia
def i7.fg (h:i7 l a):bS a n m↔bS l n m:=⟨h.symm.succ,h.succ⟩
theorem Ha (p:l.Perm b):aK f l=aK f b:=by
 induction p with
 |nil=>rfl
 |cons x _ c=>show f x+_=f x+_;rw[c]
 |swap x y l=>show f y+(f x+aK f l)=f x+(f y+aK f l);lia
 |trans _ _ d e=>rw[d,e]
def KS(p:rooms'.Perm rooms)(a:α):ax rooms' a=ax rooms a:=by$(decide_eq_decide.2 p.mem_iff)
theorem qO.turn(h:qO rooms w ring lt)(p:rooms'.Perm rooms)(t:∀x∈rooms,i7 (ring x)<|ring' x):qO rooms' w ring' lt:=by
 let mem:∀{x:α},x∈rooms'↔x∈rooms:=λ{x}=>p.mem_iff
 let C':iL rooms' [w 0,w 1,w 2,w 3] ring':={
  ku:=p.nodup_iff.2 h.C.ku
  gY:=λx d=>h.C.gY x<|mem.1 d
  nd:=λx d=>(t x<|mem.1 d).perm.nodup_iff.2 (h.C.nd x<|mem.1 d)
  len:=λx d=>by rw[(t x<|mem.1 d).perm.length_eq];$(h.C.len x<|mem.1 d)
  mem:=λx d y f=>(h.C.mem x (mem.1 d) y<|(t x<|mem.1 d).perm.mem_iff.1 f).imp mem.2 id
  gB:=λx d f=>h.C.gB x (mem.1 d)<|(t x<|mem.1 d).perm.mem_iff.1 f
  sym:=λx d y f v=>(t y<|mem.1 f).perm.mem_iff.2 (h.C.sym x (mem.1 d) y (mem.1 f)<|(t x<|mem.1 d).perm.mem_iff.1 v)
  lA:=λx d n m s g=>(t n<|mem.1 g).succ (h.C.lA x (mem.1 d) n m ((t x<|mem.1 d).fg.1 s)<|mem.1 g)
  lZ:=λx d n m s hm=>(t m<|mem.1 hm).succ (h.C.lZ x (mem.1 d) n m ((t x<|mem.1 d).fg.1 s)<|mem.1 hm)}
 let row:∀{wl a:α}{l:List α},Row rooms ring wl a l->Row rooms' ring' wl a l:=λ{wl a l} r=>by
  induction r with
  |stop g=>$(.stop λz=>g (mem.1 z))
  |go A s _ o=>$(.go (mem.2 A) ((t _ A).succ s) o)
 let B:∀k x,x∈reach rooms [w 0,w 1,w 2,w 3] ring k->x∈reach rooms' [w 0,w 1,w 2,w 3] ring' k:=by
  ext k;induction k with
  |zero=>$(λx d=>d)
  |succ k o =>
   ext x d;let d||d:=eK.1 d
   .$(eK.2<|ι d)
   let(i,D):=hG.1 d;let(y,f,e):=zc.1 D;$(eK.2<|τ<|hG.2 ⟨mem.2 i,zc.2 ⟨y,(t x i).perm.mem_iff.2 f,?_⟩⟩);$(decide_eq_true<|o y<|of_decide_eq_true e)
 $({C',h.U9,λx d j k E q s=>h.ww x (mem.1 d) j k E q<|(t x<|mem.1 d).fg.1 s,λk q=>?_,λx d=>?_,?_})
 .let(x,d,i,l,r,n,e):=h.row k q;$({x,mem.2 d,λy f=>?_,l,row r,n,λy=>?_})
  .rw[(t y<|mem.1 f).fg];$(i y<|mem.1 f)
  rw[e y];constructor
  .ext⟨a,b⟩;$({mem.2 a,(t y a).perm.mem_iff.2 b})
  ext⟨a,b⟩;$({mem.1 a,(t y<|mem.1 a).perm.mem_iff.1 b})
 .rw[p.length_eq];$(B _ x<|h.all x<|mem.1 d)
 let u:ax rooms'=ax rooms:=funext<|KS p;let F:canon rooms' lt=canon rooms lt:=by$$(canon);rw[u]
 let c:(corners rooms' ring').countP (canon rooms' lt)=(corners rooms ring).countP (canon rooms lt):=by
  rw[F];$(List.Perm.countP_eq _<|(iR (mo C')<|mo h.C).2 ?_);ext⟨x,n,m⟩;rw[gp,gp,mem];constructor
  .ext⟨a,b⟩;$({a,(t x a).fg.1 b})
  ext⟨a,b⟩;$({a,(t x a).fg.2 b})
 let G:aK (λx=>(ring' x).countP λy=>!ax rooms' y) rooms'=aK (λx=>(ring x).countP λy=>!ax rooms y) rooms:=by rw[Ha p,u];$(dQ λx d=>(t x d).perm.countP_eq _)
 let H:aK (λx=>(ring' x).countP λy=>ax rooms' y&&lt x y) rooms'=aK (λx=>(ring x).countP λy=>ax rooms y&&lt x y) rooms:=by rw[Ha p,u];$(dQ λx d=>(t x d).perm.countP_eq _)
 simp?[c,G,H,p.length_eq];$h.Jc
end
section
variable{α β:Type}[DecidableEq α][DecidableEq β]
def bS.map (ν:α->β)(h:bS l n m):bS (l.map ν) (ν n) (ν m):=by let(i,a,h2):=h;$({i,by rw[dk,a];rfl,by simp!})
def bS.of_map (h:bS (l.map ν) a b):∃n m,a=ν n/\b=ν m/\bS l n m:=by let(i,d,c):=h;rw[dk]at d c;rw[a8]at c;let(n,e,rfl):=ft.1 d;let(m,f,rfl):=ft.1 c;$(⟨n,m,ρ,ρ,i,e,f⟩)
end
section
variable{bx:Ob}{os:List Ob}{β:Type}[DecidableEq β]{ν:Ob->β}{ring':β->List β}{lt:β->β->Bool}
def lV(a:bx.ok)(hj:j<4)(hk:k<4)(h:wall bx j=wall bx k):j=k:=by
 delta Ob.ok at a;let c:j=0\/j=1\/j=2\/j=3:=by lia
 let d:k=0\/k=1\/k=2\/k=3:=by lia
 let a0:wall bx 0=wN bx:=ρ;let e:wall bx 1=wE bx:=ρ;let f:wall bx 2=wS bx:=ρ;let g:wall bx 3=wW bx:=ρ;let i:=congrArg Ob.l h;let m:=congrArg Ob.b h;let n:=congrArg Ob.r h;let o:=congrArg Ob.t h;let rfl||rfl||rfl||rfl:=c<;>let rfl||rfl||rfl||rfl:=d<;>first|rfl|(exfalso;simp?[a0,e,f,g,wN,wE,wS,wW]at i m n o;lia)
theorem aH.AI(T:aH bx os)(v:bx.ok)(nd:(os++walls bx).Nodup)(inj:∀a∈os++walls bx,∀b∈os++walls bx,ν a=ν b->a=b)(B:∀x∈os,ring' (ν x)=(bC (os++walls bx) x).map ν)(O:Order lt):qO (os.map ν) (λk=>ν<|wall bx k) ring' lt:=by
 let C:=T.closed v nd;let A:∀{a:Ob},a∈os->a∈os++walls bx:=λh=>eK.2<|ι h;let F:∀{a:Ob},a∈walls bx->a∈os++walls bx:=λh=>eK.2<|τ h;let t:∀{x y:Ob},y∈bC (os++walls bx) x->y∈os++walls bx:=λh=>(jh.1 h).1;let inR:∀{y:Ob},y∈os++walls bx->ν y∈os.map ν->y∈os:=λ{y} i h=>by let(z,hz,e):=ae.1 h;rwa[<-inj z (A hz) y i e]
 let E:∀{x n m:Ob},x∈os->n∈os++walls bx->m∈os++walls bx->(bS (ring'<|ν x) (ν n) (ν m)↔bS (bC (os++walls bx) x) n m):=λ{x n m} d I hm=>by
  rw[B x d];constructor
  .ext h;let(Q,R,S,U,s):=h.of_map;simp?[inj n I Q (t s.mem.1) S,inj m hm R (t s.mem.2) U];$s
  $(λs=>s.map ν)
 let C':iL (os.map ν) ((walls bx).map ν) ring':={
  ku:=gd.2 (C.ku.imp_of_mem λo u D e=>D<|inj _ (A o) _ (A u) e)
  gY:=λa o hw=>by let(x,d,rfl):=ae.1 o;let(y,i,e):=ae.1 hw;let:=inj y (F i) x (A d) e;$$this;$(C.gY y d i)
  nd:=λa o=>by let(x,d,rfl):=ae.1 o;rw[B x d];$(gd.2 ((C.nd x d).imp_of_mem λo u D e=>D<|inj _ (t o) _ (t u) e))
  len:=λa o=>by let(x,d,rfl):=ae.1 o;rw[B x d,a8];$(C.len x d)
  mem:=λa o b u=>by let(x,d,rfl):=ae.1 o;rw[B x d]at u;let(y,i,rfl):=ae.1 u;$((C.mem x d y i).imp (λh=>ae.2 ⟨y,h,ρ⟩) (λh=>ae.2 ⟨y,h,ρ⟩))
  gB:=λa o u=>by let(x,d,rfl):=ae.1 o;rw[B x d]at u;let(y,i,e):=ae.1 u;let:=inj y (t i) x (A d) e;$$this;$(C.gB y d i)
  sym:=λa o b u h=>by let(x,d,rfl):=ae.1 o;let(y,i,rfl):=ae.1 u;rw[B x d]at h;let(z,hz,e):=ae.1 h;let:=inj z (t hz) y (A i) e;$$this;rw[B z i];$(ae.2 {x,C.sym x d z i hz,ρ})
  lA:=λa o b c s u=>by let(x,d,rfl):=ae.1 o;let s':=s;rw[B x d]at s';let(n,m,rfl,rfl,G):=s'.of_map;let I:=inR (t G.mem.1) u;$((E I (t G.mem.2)<|A d).2 (C.lA x d n m G I))
  lZ:=λa o b c s Z=>by let(x,d,rfl):=ae.1 o;let s':=s;rw[B x d]at s';let(n,m,rfl,rfl,G):=s'.of_map;let hm:=inR (t G.mem.2) Z;$((E hm (A d)<|t G.mem.1).2 (C.lZ x d n m G hm))}
 let row:∀{w a:Ob}{l:List Ob},w∈walls bx->a∈os++walls bx->Row os (bC<|os++walls bx) w a l->Row (os.map ν) ring' (ν w) (ν a) (l.map ν):=λ{w a l} hw o r=>by
  induction r with
  |stop I=>$(.stop λz=>I (inR o z))
  | @go a p l h s _ J=>$(.go (ae.2 ⟨a,h,ρ⟩) ((E h (t s.mem.1)<|F hw).2 s)<|J<|t s.mem.1)
 let V:∀k x,x∈os++walls bx->x∈reach os (walls bx) (bC<|os++walls bx) k->ν x∈reach (os.map ν) ((walls bx).map ν) ring' k:=by
  ext k;induction k with
  |zero=>$(λx _ d=>ae.2 ⟨x,d,ρ⟩)
  |succ k J =>
   ext x hN d;let d||d:=eK.1 d
   .$(eK.2<|ι<|ae.2 ⟨x,d,ρ⟩)
   let(M,K):=hG.1 d;let(y,i,e):=zc.1 K;$(eK.2<|τ<|hG.2 ⟨ae.2 ⟨x,M,ρ⟩,zc.2 ⟨ν y,?_,?_⟩⟩)
   .rw[B x M];$(ae.2 ⟨y,i,ρ⟩)
   $(decide_eq_true<|J y (t i)<|of_decide_eq_true e)
 let N:∀{y:Ob},y∈os++walls bx->ax (os.map ν) (ν y)=ax os y:=λ{y} i=>by refine decide_eq_decide.2 {inR i,λh=>ae.2 ⟨y,h,ρ⟩}
 let L:∀(f:β->Nat) (g:Ob->Nat),(∀x∈os,f (ν x)=g x)->aK f (os.map ν)=aK g os:=λf g h=>by
  let:∀l:List Ob,(∀x∈l,f (ν x)=g x)->aK f (l.map ν)=aK g l:=by
   ext l;induction l with
   |nil=>ext _;rfl
   |cons a l J=>ext h;show f (ν a)+aK f (l.map ν)=g a+aK g l;simp?[h a ⋯,J λx d=>h x (by simp[d])]
  $(this os h)
 let W:aK (λx=>(ring' x).countP (ax<|os.map ν)) (os.map ν)=aK (λx=>(bC (os++walls bx) x).countP (ax os)) os:=L _ _ λx d=>by rw[B x d,qp];$(z0 λy i=>by show ax (os.map ν) (ν y)=bi↔_;rw[N (t i)])
 let X:aK (λx=>(ring' x).countP λy=>!ax (os.map ν) y) (os.map ν)=aK (λx=>(bC (os++walls bx) x).countP λy=>!ax os y) os:=L _ _ λx d=>by rw[B x d,qp];$(z0 λy i=>by show(!ax (os.map ν) (ν y))=bi↔_;rw[N (t i)])
 let a3:((corners (os.map ν) ring').countP λc=>!ax (os.map ν) c.2.1&&!ax (os.map ν) c.2.2)=4:=by
  rw[<-T.Qn v nd];let pm:(corners (os.map ν) ring').Perm ((corners os<|bC<|os++walls bx).map λc=>(ν c.1,ν c.2.1,ν c.2.2)):=by
   $((iR (mo C')<|gd.2<|(mo C).imp_of_mem ?_).2 ?_)
   .ext⟨x,n,m⟩ ⟨x',Q,R⟩ h h' D e;let(d,s):=gp.1 h;let(Y,s'):=gp.1 h';simp at e;$(D (by simp?[inj x (A d) x' (A Y) e.1,inj n (t s.mem.1) Q (t s'.mem.1) e.2.1,inj m (t s.mem.2) R (t s'.mem.2) e.2.2]))
   ext⟨a,b,c⟩;rw[gp];constructor
   .ext⟨o,s⟩;let(x,d,rfl):=ae.1 o;rw[B x d]at s;let(n,m,rfl,rfl,G):=s.of_map;$(ae.2 {(x,n,m),gp.2 ⟨d,G⟩,ρ})
   ext h;let((x,n,m),K,e):=ae.1 h;$$$e;let(d,s):=gp.1 K;$({ae.2 ⟨x,d,ρ⟩,(E d (t s.mem.1)<|t s.mem.2).2 s})
  rw[pm.countP_eq,qp];apply z0;ext⟨x,n,m⟩ h;let(d,s):=gp.1 h;show(!ax (os.map ν) (ν n)&&!ax (os.map ν) (ν m))=bi↔_;rw[N (t s.mem.1),N<|t s.mem.2]
 let b1:=C'.least O;let b2:=C'.half O;let b3:=T.sums v nd;$({C',?_,?_,?_,?_,?_})
 .$(gd.2 ((ka.1 nd).2.1.imp_of_mem λo u D e=>D<|inj _ (F o) _ (F u) e))
 .ext a o j k P H s;let(x,d,rfl):=ae.1 o;let f:=(T.kF v d (h9 bx j)<|h9 bx k).1 ((T.fg v d nd (τ<|h9 bx j)<|τ<|h9 bx k).1 ((E d (F<|h9 bx j)<|F<|h9 bx k).1 s));let e0:wN bx=wall bx 0:=ρ;let S:wE bx=wall bx 1:=ρ;let U:wS bx=wall bx 2:=ρ;let e3:wW bx=wall bx 3:=ρ;rw[e0,S,U,e3]at f;let(p,q,_)||(p,q,_)||(p,q,_)||(p,q,_):=f
  .rw[lV v P ⋯ p,lV v H ⋯ q]
  .rw[lV v P ⋯ p,lV v H ⋯ q]
  .rw[lV v P ⋯ p,lV v H ⋯ q]
  rw[lV v P ⋯ p,lV v H ⋯ q]
 .ext k H;let(x,d,M,K,h3):=T.first v nd H;let(l,r,n,e):=T.row v nd H d M K;$({ν x,ae.2 ⟨x,d,ρ⟩,λb u=>?_,l.map ν,row (h9 bx k) (A d) r,gd.2 (n.imp_of_mem λo u D e'=>D<|inj _ (A ((e _).1 o).1) _ (A ((e _).1 u).1) e'),λb=>?_})
  .let(y,i,rfl):=ae.1 u;rw[E i (F<|h9 bx k) (F<|h9 bx _),h3 y i];$({λh=>by rw[h],λh=>inj y (A i) x (A d) h})
  rw[ae];constructor
  .ext⟨y,i,rfl⟩;let(p,q):=(e y).1 i;$({ae.2 ⟨y,p,ρ⟩,?_});rw[B y p];$(ae.2 {_,(T.tied v p H).2 q,ρ})
  ext⟨p,q⟩;let(y,i,rfl):=ae.1 p;rw[B y i]at q;let(z,hz,ez):=ae.1 q;let:=inj z (t hz) _ (F<|h9 bx k) ez;$$this;$({y,(e y).2 {i,(T.tied v i H).1 hz},ρ})
 .ext a o;let(x,d,rfl):=ae.1 o;rw[a8];$(V _ x (A d)<|T.all_reached v nd d)
 rw[W,X,a3]at b1;rw[W]at b2;rw[X,a8];lia
end
def fG(os:List Ob):Prop:=∀p,(dA os).count p<=3
def UC(a b):dA (a++b)=dA a++dA b:=by$aa0
theorem fG.perm{a b:List Ob}(h:fG a)(p:b.Perm a):fG b:=λq=>by let:(dA b).Perm (dA a):=p.flatMap_right _;rw[this.count_eq];$(h q)
def fG.one(o)(h:o.ok):fG [o]:=λq=>by let e:dA [o]=dy o:=nS _;rw[e];delta Ob.ok at h;simp?[dy,aa8,aaN];split<;>split<;>split<;>split<;>lia
def fG.cut (h:fG (A++o::B))(k:∀p,(dy x).count p+(dy y).count p=(dy o).count p\/((dA (A++o::B)).count p=0/\(dy x).count p+(dy y).count p<=3)):fG (A++[x]++B++[y]):=λp=>by let h:=h p;let k:=k p;let e:∀l:List Ob,∀o,dA (o::l)=dy o++dA l:=λl o=>rfl;simp?[UC,acb,e,show dA []=[]from ρ,aaN]at *;lia
def fG.Mw (h:fG (A++o::B))(ok:o.ok)(f:∀z∈A++o::B,z.l≠c/\z.r≠c):fG (A++[⟨o.l,o.b,c,o.t⟩]++B++[⟨c,o.b,o.r,o.t⟩]):=by
 $(h.cut λp=>?_);ext(e:p.1=c)
 .right;$({ac8.2 λa=>?_,?_})
  .let(z,hz,a):=hY.1 a;let:=f z hz;simp?[dy,eW,aam]at a;grind
  let:=f o ⋯;delta Ob.ok at ok;simp?[dy,aa8,aaN,beq_iff_eq,aam];grind
 left;simp?[dy,aa8,aaN,beq_iff_eq];grind
def fG.WH (h:fG (A++o::B))(ok:o.ok)(f:∀z∈A++o::B,z.b≠c/\z.t≠c):fG (A++[⟨o.l,o.b,o.r,c⟩]++B++[⟨o.l,c,o.r,o.t⟩]):=by
 $(h.cut λp=>?_);ext(e:p.2=c)
 .right;$({ac8.2 λa=>?_,?_})
  .let(z,hz,a):=hY.1 a;let:=f z hz;simp?[dy,eW,aam]at a;grind
  let:=f o ⋯;delta Ob.ok at ok;simp?[dy,aa8,aaN,beq_iff_eq];grind
 left;simp?[dy,aa8,aaN,beq_iff_eq];grind
theorem fG.zw{os:List Ob}(W:Int)(h:fG os):fG (os.map λo=>{W-o.r,o.b,W-o.l,o.t}):=λp=>by
 let c:∀l:List (Int×Int),(l.map λq=>(W-q.1,q.2)).count p=l.count (W-p.1,p.2):=λl=>by rw[ahO,qp,ahO];$(z0 λq _=>?_);show((W-q.1,q.2)==p)=bi↔_;rw[beq_iff_eq,beq_iff_eq,aam,aam];$(and_congr (show W-q.1=p.1↔q.1=W-p.1 by$_)<|Iff.refl _)
 let e:(dA (os.map λo=>{W-o.r,o.b,W-o.l,o.t})).count p=(dA os).count (W-p.1,p.2):=by
  rw[<-c];clear h;induction os with
  |nil=>rfl
  |cons o os a=>show(dy _++dA _).count p=((dy o++dA os).map _).count p;rw[fv,acb,acb,a];$(congrArg (·+_)<|(abm (l₁:=[(W-o.r,o.b),(W-o.r,o.t)]) (l₂:=[(W-o.l,o.b),(W-o.l,o.t)])).count_eq p)
 rw[e];$(h _)
section
def top(i:Nat):Stmt:=PySem.Challenge.pw_roomtouch_k22_tintings_read_off.main.body.getD i<|.Pass ⟨0,0,0,0⟩
local macro_rules | `(tactic| walk_at "sc")=>`(tactic| exact⟨rfl,rfl,rfl,by decide +kernel,rfl,by decide +kernel,by decide +kernel⟩)
abbrev Ap:Stmt:=top 15
def Iv:br ["wall"] ["wall"] (aQ Ap):=by$("sc")
abbrev Ak:Stmt:=top 16
def EX:br ["thing"] ["thing"] (aQ Ak):=by$("sc")
abbrev BC:Stmt:=top 17
def Ez:br ["thing"] ["thing"] (aQ BC):=by$("sc")
abbrev BA:Stmt:=top 18
def Ju:br ["room","ring","names"] ["room","ring","names"] (aQ BA):=by$("sc")
abbrev Ab:Stmt:=top 19
def Ga:br ["web","rooms","names"] ["web"] (aQ Ab):=by$("sc")
abbrev yV:Stmt:=top 20
def Fq:br ["rings","room","name"] ["rings"] (aQ yV):=by$("sc")
abbrev B7:Stmt:=top 21
def Ds:br ["rings","corners","room","ring","name","behind"] ["rings"] (aQ B7):=by$("sc")
abbrev BL:Stmt:=top 22
def Hf:br ["corner","corners","room","name","behind"] ["corner","corners"] (aQ BL):=by$("sc")
abbrev zG:Stmt:=top 23
def F7:br ["rings","corners"] ["rings"] (aQ zG):=by$("sc")
abbrev BN:Stmt:=top 24
def J0:br ["rings","wall","first","row","name","ring"] ["rings","wall","first"] (aQ BN):=by$("sc")
abbrev BR:Stmt:=top 25
def F4:br ["rings","wall","corners","firsts","tied"] ["rings","wall"] (aQ BR):=by$("sc")
abbrev zl:Stmt:=top 26
def FZ:br ["ring","names"] ["ring","names"] (aQ zl):=by$("sc")
abbrev AX:Stmt:=top 27
def JG:br ["rings","reached","turn"] ["rings"] (aQ AX):=by$("sc")
abbrev zD:Stmt:=top 28
def EV:br ["rings","ties","room","name"] ["rings"] (aQ zD):=by$("sc")
abbrev B':Stmt:=top 29
def Hv:br ["rings","threes","corner"] ["rings"] (aQ B'):=by$("sc")
abbrev Bx:Stmt:=top 30
def GJ:br ["web","rings"] ["web"] (aQ Bx):=by$("sc")
abbrev CA:Stmt:=top 32
def NK:br ["room","name","side"] ["room","name","side"] (aQ CA):=by$("sc")
abbrev Ce:Stmt:=top 35
def HQ:br ["thing"] ["thing"] (aQ Ce):=by$("sc")
abbrev zY:Stmt:=top 36
def EM:br ["thing"] ["thing"] (aQ zY):=by$("sc")
abbrev yG:Stmt:=top 37
def C9:br ["row"] ["row"] (aQ yG):=by$("sc")
abbrev BU:Stmt:=top 38
def JX:br ["row","other"] ["row","other"] (aQ BU):=by$("sc")
abbrev zX:Stmt:=top 39
def Js:br ["row","other"] ["row","other"] (aQ zX):=by$("sc")
abbrev B8:Stmt:=top 40
def Em:br ["row","rows"] ["row","rows"] (aQ B8):=by$("sc")
abbrev yc:Stmt:=top 41
def HJ:br ["rows","whole"] ["rows"] (aQ yc):=by$("sc")
abbrev Bl:Stmt:=top 42
def EW:br ["floor","right","top"] ["floor"] (aQ Bl):=by$("sc")
abbrev ym:Stmt:=top 43
def FV:br ["row","other","width","height"] ["row","other"] (aQ ym):=by$("sc")
abbrev Bu:Stmt:=top 44
def Jz:br ["side","other"] ["side","other"] (aQ Bu):=by$("sc")
abbrev yF:Stmt:=top 45
def Hk:br ["row","rows","found","side","there"] ["row","rows"] (aQ yF):=by$("sc")
abbrev Al:Stmt:=top 46
def Io:br ["floor","rows","found","row"] ["floor"] (aQ Al):=by$("sc")
abbrev BW:Stmt:=top 47
def C4:br ["touched"] ["touched"] (aQ BW):=by$("sc")
abbrev Cj:Stmt:=top 49
def GN:br ["web","rows","rings","touched"] ["web","rows"] (aQ Cj):=by$("sc")
abbrev B3:Stmt:=top 50
theorem J7:br ["web","floor","touched","rows","room","side","name"] ["web","floor"] (aQ B3):=by$("sc")
abbrev A2:Stmt:=top 52
def Iz:br ["_law_cell","_law_k","_law_number"] ["_law_cell","_law_k"] (aQ A2):=by$("sc")
abbrev BM:Stmt:=top 53
def G4:br ["_law_script","_law_cells","_law_number","_law_k"] ["_law_script"] (aQ BM):=by$("sc")
abbrev ye:Stmt:=top 54
def CI:br ["_law_purse_here","_law_out_of","_law_drawn"] ["_law_purse_here","_law_out_of"] (aQ ye):=by$("sc")
abbrev x5:Stmt:=top 55
def CY:br ["_law_purse_here","_law_many","_law_letters","_law_long","_law_stem","_law_at","_law_found","_law_k","_law_spots","_law_name"] ["_law_purse_here","_law_many"] (aQ x5):=by$("sc")
abbrev yJ:Stmt:=top 56
def Dm:br ["_law_purse_here","_law_rows","_law_name","_law_at","_law_low","_law_room","_law_lines","_law_line","_law_lower","_law_upper"] ["_law_purse_here","_law_rows","_law_name"] (aQ yJ):=by$("sc")
abbrev Bp:Stmt:=top 57
def F6:br ["_law_purse_here","_law_most","_law_names_here","_law_rows","_law_count","_law_k","_law_wide"] ["_law_purse_here","_law_most"] (aQ Bp):=by$("sc")
abbrev Cg:Stmt:=top 58
def C5:br ["_law_one","_law_other","_law_low"] ["_law_one","_law_other","_law_low"] (aQ Cg):=by$("sc")
abbrev zF:Stmt:=top 59
def Gs:br ["_law_rows","_law_one","_law_low","_law_way","_law_found","_law_other","_law_near"] ["_law_rows","_law_one","_law_low","_law_way"] (aQ zF):=by$("sc")
abbrev AU:Stmt:=top 60
def Hs:br ["_law_rows","_law_one","_law_above","_law_right","_law_beneath","_law_left"] ["_law_rows","_law_one"] (aQ AU):=by$("sc")
abbrev Ck:Stmt:=top 61
def JC:br ["_law_rows"] ["_law_rows"] (aQ Ck):=by$("sc")
abbrev zN:Stmt:=top 62
def Eo:br ["_law_purse_here","_law_web_here","_law_at","_law_found","_law_room","_law_row","_law_far"] ["_law_purse_here","_law_web_here"] (aQ zN):=by$("sc")
abbrev zM:Stmt:=top 63
def Jq:br ["_law_web_here","_law_floor_here","_law_rows","_law_found","_law_room","_law_row","_law_name"] ["_law_web_here","_law_floor_here"] (aQ zM):=by$("sc")
abbrev zW:Stmt:=top 64
def Dh:br ["_law_web_here","_law_found","_law_room","_law_row"] ["_law_web_here"] (aQ zW):=by$("sc")
abbrev yW:Stmt:=top 65
def D2:br ["_law_rows","_law_wide","_law_high","_law_found","_law_one","_law_shuts","_law_line","_law_far","_law_name","_law_other","_law_up"] ["_law_rows"] (aQ yW):=by$("sc")
abbrev Bg:Stmt:=top 66
def Kf:br ["_law_web_here","_law_rows","_law_area","_law_one","_law_other"] ["_law_web_here","_law_rows"] (aQ Bg):=by$("sc")
abbrev zQ:Stmt:=top 67
theorem IE:br ["_law_web_here","_law_rows","_law_caught","e"] ["_law_web_here","_law_rows"] (aQ zQ):=by$("sc")
abbrev B4:Stmt:=top 68
def E1:br ["_law_script","_law_purse_here","_law_floor_here","_law_web_here","_law_due","_law_found","_law_many","_law_greater","_law_one","_law_at","_law_other","_law_last","_law_bent"] ["_law_script"] (aQ B4):=by$("sc")
structure Txt (mg:eS->Option cm):Prop where
 len:mg "len"=am
 int:mg "int"=am
 Yu:mg "isinstance"=am
 rV:mg "range"=am
 min:mg "min"=am
 max:mg "max"=am
 all:mg "all"=am
 dict:mg "dict"=am
 sorted:mg "sorted"=am
 tuple:mg "tuple"=am
 list:mg "list"=am
 str:mg "str"=am
 bool:mg "bool"=am
end
section
variable{P:hZ}{w:nL}{A:ow}{E:cm->cA->Prop}{s:cA}{X:Cx}{pos:u1}{e:hF}
theorem JD {Q:cm->cA->Prop}{Fin:nk->Prop}(hl:s.heap.IsList l items)(N:∀(led:Bool) (R:adL->cA->Prop) (I:dn) (f:nk),f=((s.heap.push {cls:=.type "set",dict:=am,data:=.set #[] 0 (.fresh 0 0 led)}).push {cls:=.type "list_iterator",data:=.fields #[.ref l,.int 0 0]})->l≠I->s.heap.objs.size∉[I,l]->f.get? s.heap.objs.size=al {cls:=.type "set",dict:=am,data:=.set #[] 0 (.fresh 0 0 led)}->f.IsList l items->(∃o,f.get? I=al o/\o.cls=.type "list_iterator"/\o.data=.fields #[.ref l,.int 0 0]) ->
   (∀s',Moved [s.heap.objs.size,I] (λa b=>b=a) {s with heap:=f} s'->Fin s'.heap->R (.ok<|.ret .none) s')->abu (hM P w) A.in1.in1 (.builtin "set.update.loop" {[.ref s.heap.objs.size,.ref I],[]}) R {s with heap:=f})(h:∀(h':nk) (tk:Nat),Fin h'->(∀b o,b<s.heap.objs.size->s.heap.get? b=al o->h'.get? b=al o)->Q (.ref s.heap.objs.size) {s with heap:=h',toks:=tk}) :
  gj (hM P w) A (call (.type "set") [.ref l]) Q E s:=by
 let(c,tl,hmro):=P2.mro;let hmade:=PySem.F.called_set.made;let hsub:=P2.sub;$(agn<|codeAny_of_tree ?_);$(dr {afk _ (by decide +kernel),vv PySem.F.entry_type_call ?_});rw[Around.under_plain (weight_type_call_type "set" [.ref l] []) ρ];let h2:=P2.canCreate;let hct:=PySem.F.typeCall_set_1<|.ref l
 repeat (any_goals (first|assumption|wp_step))
 $(aaC (code_set_new_1 (.ref l) (E:=E) (Q₁:=λobj g=>∃led:Bool,obj=.ref s.heap.objs.size/\g={s with heap:=s.heap.push {cls:=.type "set",dict:=am,data:=.set #[] 0 (.fresh 0 0 led)} }) λled=>⟨led,ρ,ρ⟩) λr g v=>?_);cases r with
 |error e=>$v
 |ok fl =>
  cases fl with
  |ret obj =>
   let(led,rfl,rfl):=v;let C:(s.heap.push {cls:=.type "set",dict:=am,data:=.set #[] 0 (.fresh 0 0 led)}).get? s.heap.objs.size=al {cls:=.type "set",dict:=am,data:=.set #[] 0 (.fresh 0 0 led)}:=gi _ ρ;let O:Shared.TypeIs {s with heap:=s.heap.push {cls:=.type "set",dict:=am,data:=.set #[] 0 (.fresh 0 0 led)} } (.ref s.heap.objs.size) "set":={_,C,ρ};let hli:=P2.init.lookup;let hbi:=P2.init.bind<|.ref s.heap.objs.size
   repeat (any_goals (first|assumption|wp_step))
   $(aaC (ada (R:=wants (λr i=>r=.none/\∃h' tk,i={s with heap:=h',toks:=tk} /\
     Fin h' /\
     (∀b o,b<s.heap.objs.size->s.heap.get? b=al o->h'.get? b=al o)) E) P2.init.plain PySem.F.entry_set_init<|check_set_init_1 O ?_) λx i d=>?_)
   .let(S,p,q,nl,t):=hl;let(ocls,m,odata,j):=S;simp? at q t;$$q;$$t;let y:(s.heap.push {cls:=.type "set",dict:=am,data:=.set #[] 0 (.fresh 0 0 led)}).get? l=al {cls:=.type "list",dict:=m,data:=.seq items nl,slots:=j}:=eu _ p;let hsls:=PySem.F.sub_list_set;let hslf:=PySem.F.sub_list_frozenset;let hne:(abl "list" == abl "dict")=bn:=⋯
    let u:(s.heap.push {cls:=.type "set",dict:=am,data:=.set #[] 0 (.fresh 0 0 led)}).IsList l items:={_,y,ρ,nl,ρ};unfold ZI.«set.__init__» noKeywords af5;generalize D:afs=PI
    wp_walk
    $$D;$(ZG u<|bg<|ahR ?_);let G:l<s.heap.objs.size:=fj p;let z:l≠(s.heap.push {cls:=.type "set",dict:=am,data:=.set #[] 0 (.fresh 0 0 led)}).objs.size:=by rw[abY];$(gD<|abi G)
    let H:s.heap.objs.size∉[(s.heap.push {cls:=.type "set",dict:=am,data:=.set #[] 0 (.fresh 0 0 led)}).objs.size,l]:=by simp! [abh]
    let B:((s.heap.push {cls:=.type "set",dict:=am,data:=.set #[] 0 (.fresh 0 0 led)}).push {cls:=.type "list_iterator",data:=.fields #[.ref l,.int 0 0]}).get? s.heap.objs.size=al {cls:=.type "set",dict:=am,data:=.set #[] 0 (.fresh 0 0 led)}:=eu _ C;$(N led _ _ _ ρ z H B (u.push _) {_,gi _ ρ,ρ,ρ} ?T);ext s' hm k;let(h',g',d',J,K):=s';let U:g'=s.gens:=hm.gens;let V:d'=s.drawn:=hm.drawn;let W:K=s.os:=hm.os;$$U;$$V;$$W;show gj _ _ _ _ _ _;$(dr ?_);show gj _ _ (ret ql) _ _ _;$(dr {ρ,h',J,ρ,k,λb o L e=>?_});let hb1:b≠s.heap.objs.size:=gD L;let hb2:b≠(s.heap.push {cls:=.type "set",dict:=am,data:=.set #[] 0 (.fresh 0 0 led)}).objs.size:=by rw[abY];$(gD<|abi L)
    $(hm.heap b o ?_<|eu _<|eu _ e);simp!
   cases x with
   |error e=>$d
   |ok n =>
    cases n with
    |ret r =>
     let(rfl,h',tk,rfl,k,M):=d
     repeat (any_goals (first|assumption|wp_step))
     $(h _ _ k M)
    |_=>$d.elim
  |_=>$v.elim
theorem MC(bs:List Bool):((hE bs.length).any λi=>(bs[i]?).getD false)=bs.any id:=by
 induction bs with
 |nil=>rfl
 |cons b r a=>simp?[g8,aeD,adp,aa6,<-a];rfl
def QK(g:X.calm=bi):bN X (.builtin "any") (λxs H Q=>∃(p:dn) (bs:List Bool),xs=[.ref p]/\Rd H p (.L<|bs.map V.bl)/\Q (.bl<|bs.any id) H):=by
 ext pins s σ H xs us Q I r h;let(p,bs,rfl,j,q):=h;let(u,rfl,k):=r.one;$$k;let(z,its,n,l,e):=j.ok I.ao;let c:=zS l;$$c;let d:s.heap.IsList p (bs.map H9).toArray:={_,e,ρ,n,ρ};let m:p<s.heap.objs.size:=fj e;$(call_any_walk (ZG d ⟨s.heap.objs.size,[s.heap.objs.size,p],[s.heap.objs.size],(bs.map H9).toArray.size,_,_,λi=>(bs[i]?).getD false,ρ,
  Walks.list (A:=X.A.in1) (I.ok.hd g) _ p (gD m) (bs.map H9).toArray,{{_,gi _ ρ,ρ,ρ},d.push _},λi v s' Q' E' a f=>?_,λh' tk o=>?_⟩))
 .let a:(bs.map H9)[i]?=al v:=by$$$$a
  rw[dk]at a;let(b,c,a):=oM a;$$$$$$a;simp[c]at f;$(z5 f)
 let t:(hE (bs.map H9).toArray.size).any (λi=>(bs[i]?).getD false)=bs.any id:=by simp[MC]
 rw[t];$({.bl _,H,?_,ρ,q});$(I.kept λb x ex=>o b x (λhm=>by rw[kn.1 hm]at ex;$(uz _<|fj ex))<|eu _ ex)
theorem ints_get:∀{ns:List Int}{its:List cm}{i:Nat}{v:cm},aO (ns.map V.int) its->its[i]?=al v->∃t,v=.int ((ns[i]?).getD 0) t
 |[],_,i,v,h,e=>by$$$h;simp at e
 | n::ns,_,0,v,h,e=>by
  cases h with
  |cons r t=>let(tk,rfl):=r;simp at e;$(⟨tk,e.symm⟩)
 | n::ns,_,i+1,v,h,e=>by
  cases h with
  |cons r t=>let:=ints_get (i:=i) (v:=v) t (by$$$$e);$$$$this
theorem Ii:∀{ns:List eS}{its:List cm}{i:Nat}{v:cm},aO (ns.map V.str) its->its[i]?=al v->∃t,v=.str ((ns[i]?).getD aaz) t
 |[],_,i,v,h,e=>by$$$h;simp at e
 | n::ns,_,0,v,h,e=>by
  cases h with
  |cons r t=>let(tk,rfl):=r;simp at e;$(⟨tk,e.symm⟩)
 | n::ns,_,i+1,v,h,e=>by
  cases h with
  |cons r t=>let:=Ii (i:=i) (v:=v) t (by$$$$e);$$$$this
theorem Fp(ns:List Int):∀k,k<=ns.length->preSum (λi=>(ns[i]?).getD 0) k=(ns.take k).sum
 |0,_=>by simp[preSum]
 | k+1,h=>by
  show preSum _ k+_=_;simp?[Fp ns k ∅,aed,abG]
  congr 1;let:k<ns.length:=∅
  simp[bt this]
def Sk(j:X.calm=bi):bN X (.builtin "sum") (λxs H Q=>∃(p:dn) (ns:List Int),xs=[.ref p]/\Rd H p (.L<|ns.map V.int)/\Q (.int ns.sum) H):=by
 ext pins s σ H xs us Q I r h;let(p,ns,rfl,k,q):=h;let(u,rfl,l):=r.one;$$l;let(z,its,n,a,e):=k.ok I.ao;let c:s.heap.IsList p its.toArray:={_,e,ρ,n,ρ};let d:=fj e;let f:its.length=ns.length:=by let:=a.length;$$$$this.symm
 $(call_sum_walkAnyS (ZG c ⟨s.heap.objs.size,[s.heap.objs.size,p],[s.heap.objs.size],_,its.toArray.size,_,_,λi=>(ns[i]?).getD 0,ρ,
  (Walks.list (A:=X.A.in1) (I.ok.hd j) _ p (gD d) its.toArray).toS,{{_,gi _ ρ,ρ,ρ},c.push _},λb g=>?_,λi v m=>ints_get a (by$$$$m),λs' t' hm=>?_⟩))
 .rw[abY];simp at g;let rfl||rfl:=g
  .$(aaU _)
  $(abi d)
 simp?[show its.toArray.size=ns.length from by$$$$f,Fp ns _<|eT _,lq];let(o,h2,h3,h4,h5):=hm;let t:s'={s with heap:=s'.heap,toks:=s'.toks}:=by
  $$$s';simp!
 rw[t];$({.int _,H,?_,{_,ρ},q});$(I.kept λb x ex=>o b x (λhm=>by rw[kn.1 hm]at ex;$(uz _<|fj ex))<|eu _ ex)
def fI(ns:List Int):Int:=(ns[argBest (λi j=>bd<|(ns[i]?).getD 0>(ns[j]?).getD 0) (ns.length-1)]?).getD 0
def NV(ns:List eS):Str:=(ns[argBest (λi j=>bd<|((ns[i]?).getD aaz).cps.toList<((ns[j]?).getD aaz).cps.toList) (ns.length-1)]?).getD aaz
def Ni{its:List cm}{s:cA}{p:dn}(c:p<s.heap.objs.size){o:zI}:∀b∈[s.heap.objs.size,p],b<(s.heap.push o).objs.size:=λb a=>by
 rw[abY];simp at a;let rfl||rfl:=a
 .$(aaU _)
 $(abi c)
def RX(k:X.calm=bi):bN X (.builtin "max") (λxs H Q=>∃(p:dn) (ns:List Int),xs=[.ref p]/\Rd H p (.L<|ns.map V.int)/\ns≠[]/\Q (.int<|fI ns) H):=by
 ext pins s σ H xs us Q I r h;let(p,ns,rfl,l,d,q):=h;let(u,rfl,m):=r.one;$$m;let(z,its,n,a,e):=l.ok I.ao;let f:s.heap.IsList p its.toArray:={_,e,ρ,n,ρ};let g:=fj e;let j:its.length=ns.length:=by let:=a.length;$$$$this.symm
 let h0:0<ns.length:=pB.2 d;$(call_max_walk (ZG f ⟨s.heap.objs.size,[s.heap.objs.size,p],[s.heap.objs.size],its.toArray.size,_,_,_,ρ,
  Walks.list (A:=X.A.in1) (I.ok.hd k) _ p (gD g) its.toArray,{{_,gi _ ρ,ρ,ρ},f.push _},Ni (its:=its) g,by rw[gs];lia,CmpOf.ints_gt (λi=>(ns[i]?).getD 0) (λi v c=>ints_get a (by$$$$c)),λv h' tk c o=>?_⟩))
 let(t,rfl):=ints_get a (show its[_]?=al v by$$$$c);$({.int<|fI ns,H,?_,⟨t,?_⟩,q})
 .$(I.kept λb x ex=>o b x (λhm=>by rw[kn.1 hm]at ex;$(uz _<|fj ex))<|eu _ ex)
 rw[j];rfl
def lh:List Dat->Option (List Int)
 |[]=>al []
 |.int x::r=>(lh r).map (x::·)
 |_::_=>am
theorem CH{K:f'}{H:Hp}:∀{ds:List Dat}{vs:List V}{ys:List Int},lh ds=al ys->aB K H ds vs->vs=ys.map V.int
 |[],_,_,e,r=>by$$$$$$e;$r
 | d::ds,_,_,e,a=>by
  let(v,vr,b,c,rs):=a;cases d with
  |int x=>let(ys',f,e):=oM e;$$$$$$e;simp?[b,CH f rs];$$c;rfl
  |_=>$(nO e)
def uT:List Dat->Option Res
 |[.L ds]=>(jN ds).map λbs=>.D (.bl<|bs.any id)
 |_=>am
def vW:List Dat->Option Res
 |[.L ds]=>(lh ds).map λns=>.D (.int ns.sum)
 |_=>am
def xC:List Dat->Option Res
 |[.L ds]=>(lh ds).bind λns=>if ns=[]then am else al (.D<|.int<|fI ns)
 |_=>am
def Wo (a:X.calm=bi)(b:Gl X "any")(hm:X.mg "any"=am)(c:bD X e [])(d:DA X [e] fa):DE X (.Call (.Name "any" p) [e] [] pos) (bT uT fa):=iu (QK a) (by
  ext H0 ps Z σ H c vs ds o Q e S r k;delta uT at e;$$$$$e
  .let(bs,d,e):=oM e;$$$$$$e;let(v,vr,rfl,(a,ws,rfl,b,rs),f):=r;$$f;rw[x6 d rs]at b;$({a,bs,ρ,Rd.mono S.sub b,k _ H c S (aj.refl _) ρ})
  $(nO e)) b hm (by decide +kernel) d ⋯ ρ c ρ
def Qk (a:X.calm=bi)(b:Gl X "sum")(hm:X.mg "sum"=am)(c:bD X e [])(d:DA X [e] fa):DE X (.Call (.Name "sum" p) [e] [] pos) (bT vW fa):=iu (Sk a) (by
  ext H0 ps Z σ H c vs ds o Q e S r k;unfold vW at e;$$$$$e
  .ext1 ds';let(ns,d,e):=oM e;$$$$$$e;let(v,vr,rfl,(a,ws,rfl,b,rs),f):=r;$$f;rw[CH d rs]at b;$({a,ns,ρ,Rd.mono S.sub b,k _ H c S (aj.refl _) ρ})
  $(nO e)) b hm (by decide +kernel) d ⋯ ⋯ c ρ
def NT (a:X.calm=bi)(b:Gl X "max")(hm:X.mg "max"=am)(c:bD X e [])(d:DA X [e] fa):DE X (.Call (.Name "max" p) [e] [] pos) (bT xC fa):=iu (RX a) (by
  ext H0 ps Z σ H d vs ds o Q e S r k;delta xC at e;$$$$$e
  .let(ns,f,e):=oA e;let e:=e;$$$$$e
   .$(nO e)
   ext1 b;$$$$$$e;let(v,vr,rfl,(a,ws,rfl,c,rs),g):=r;$$g;rw[CH f rs]at c;$({a,ns,ρ,Rd.mono S.sub c,b,k _ H d S (aj.refl _) ρ})
  $(nO e)) b hm (by decide +kernel) d ⋯ ρ c ρ
def ltI(fs:List Int)(i j:Nat):Bool:=bd<|fs.getD i 0<fs.getD j 0
def VI (nd:fs.Nodup):Ord (ltI fs) fs.length where
 trans:=λi j k c a=>decide_eq_true<|Int.lt_trans (of_decide_eq_true c)<|of_decide_eq_true a
 total:=λi j d f b=>by
  delta ltI;rw[eO d,eO f];ext(h:fs[i]<fs[j])
  .$(ι<|decide_eq_true h)
  $(τ (decide_eq_true ?_));ext(a:fs[j]<fs[i])
  .$a
  let e:fs[i]=fs[j]:=by lia
  $(absurd ((He nd).1 e) b)
 gB:=λi=>decide_eq_false<|Int.lt_irrefl _
def pO(K:f')(H:Hp)(vs:List V)(fs:List Int):Prop:=vs.length=fs.length/\∀(i:Nat) (f:Int),fs[i]?=al f->∃a b,vs[i]?=al (.ref a)/\bf K H a b/\b[0]?=al (.int f)
def Ln(fs:List Int)(vs out:List V):Prop:=∃q:Array Nat,dB q vs.length/\fM (ltI fs) q vs.length/\out=q.toList.map λi=>vs.getD i .aG
def FP(K:f'):List V->Hp->VK->Prop:=λxs H Q=>∃p vs fs,xs=[.ref p]/\Rd H p (.L vs)/\pO K H vs fs/\fs.Nodup/\vs.length<64/\∀out,Ln fs vs out->∀l,H l=am->Q (.ref l) (upd H l<|.L out)
theorem BS (I:Inv X j p H s):∀{fs:List Int}{vs:List V}{its:List cm},pO X.K H vs fs->aO vs its ->
  ∃c:List cm,acG s.heap its c/\c.length=fs.length/\(∀v∈c,∃x t,v=abQ x t)/\∀(i:Nat) (f:Int),fs[i]?=al f->∃a o xs n t,its[i]?=al (.ref a)/\s.heap.get? a=al o/\o.data=.seq xs n/\xs[0]?=al (abQ f t)
 | [],[],_,h,r=>by
  $$$r;$({[],.nil,ρ,λv k=>by simp at k,λi f e=>by simp at e})
 |[],_::_,_,h,_=>by simp[pO]at h
 |_::_,[],_,h,_=>by simp[pO]at h
 | f::fs,v::vs,_,h,r=>by
  cases r with
  |cons q rs =>
   let(a,ws,y,B,C):=h.2 0 f ρ;$$$$$$y;$$q;let h':pO X.K H vs fs:=⟨by$$$$(h.1),λi g e=>by
    let(b,us,l,m,D):=h.2 (i+1) g<|e
    $({b,us,by$$$$l,m,D})⟩
   let(c,k1,k2,k3,F):=BS I h' rs;let(its,G,(o,ho,J,n,hd),_):=I.tuple B;let(u,L,M):=G.get C;let(t,rfl):=M;let d:its.toArray[0]?=al (abQ f t):=by$$$$L
   $({abQ f t::c,.cons ho J hd d k1,by simp[k2],λv k=>?_,λi g e=>?_})
   .let z||z:=eW.1 k
    .$(⟨f,t,z⟩)
    $(k3 v z)
   cases i with
   |zero=>simp at e;$$e;$({a,o,_,n,t,ρ,ho,hd,d})
   |succ i=>let(b,N,xs,O,t',l,m):=F i g<|e;$({b,N,xs,O,t',by$$$$l,m})
theorem Yb(G:X.ex=[]):bN X (.builtin "sorted") (FP X.K):=by
 ext pins s σ H xs us Q I r h;let(p,vs,fs,rfl,S,c,nd,J,q):=h;let(u,rfl,U):=r.one;$$U;$(zr G (T:=.type "int") I S J (by rw[c.1];$(VI nd)) ⋯ (λits B=>?_) (λits B i j D F L h' n C hC=>?_) q)
 .let(V,Y,Z,ks,_):=BS I c B;$({V,Y,by rw[Z];$(c.1.symm),λv hv h=>?_});let(x,t,rfl):=ks v hv;$(adv ρ)
 let(_,_,_,_,y):=BS I c B;rw[c.1]at D F;let(a,o,xs,n1,t1,a1,a2,M,d):=y i _<|bt D;let(b,o',ys,n2,t2,b1,b2,N,f):=y j _<|bt F;let ea:its.getD i ql=.ref a:=by rw[l4,a1];rfl
 let eb:its.getD j ql=.ref b:=by rw[l4,b1];rfl
 rw[ea,eb];apply aha (n _ _ _ _ M a2) M (n _ _ _ _ N b2) N;obtain⟨g,k,ex⟩:∃g k,xs.toList=g::k:=by
  cases hx:xs.toList with
  |nil=>rw[<-gf,hx]at d;$(nO d)
  |cons g k=>$(⟨g,k,ρ⟩)
 obtain⟨l,m,O⟩:∃l m,ys.toList=l::m:=by
  cases hy:ys.toList with
  |nil=>rw[<-gf,hy]at f;$(nO f)
  |cons l m=>$(⟨l,m,ρ⟩)
 rw[<-gf,ex]at d;rw[<-gf,O]at f;$$$$$$d;$$$$$$f;simp?[ex,O];let R:fs[i]≠fs[j]:=λz=>L<|(He nd).1 z;$(af3<|ag0 ?_);simp[beq_eq_false_iff_ne.2 R];$(ag'<|oneLt_int ?_);let:ltI fs i j=bd (fs[i]<fs[j]):=by$$(ltI);rw[eO D,eO F]
 simp!
def qY:Dat->Option Int
 |.U (.int x::_)=>al x
 |_=>am
def firstsI:List Dat->Option (List Int)
 |[]=>al []
 |d::r=>(qY d).bind λx=>(firstsI r).map (x::·)
def jj(d:Dat):Int:=(qY d).getD 0
def gA(a b:Dat):Bool:=bd<|jj a<=jj b
def vz(ds:List Dat):List Dat:=ds.mergeSort gA
theorem EB:∀{ds:List Dat}{fs:List Int},firstsI ds=al fs->fs=ds.map jj/\∀d∈ds,∃x,qY d=al x
 |[],_,e=>by$$$$$$e;$({ρ,λd h=>by simp at h})
 |d::r,_,e=>by let(x,e1,e):=oA e;let(ys,a,e):=oM e;$$$$$$e;let(h1,h2):=EB a;simp![jj]
theorem EO{K:f'}{H b:Hp}(s:aj b H):∀{ds:List Dat}{vs:List V}{fs:List Int},firstsI ds=al fs->aB K b ds vs->pO K H vs fs
 |[],_,_,e,r=>by$$$$$$e;rw[show _=[]from r];$({ρ,λi f e=>by simp at e})
 | d::ds,_,_,e,c=>by
  let(v,vr,j,k,rs):=c;let e:=e;obtain⟨x,a,e⟩:=oA e;let(ys,l,e):=oM e;$$$$$$e;let(m,h2):=EO s l rs;simp[j];$({by simp[m],λi f g=>?_});cases i with
  |zero =>
   simp at g;$$g;delta qY at a;$$$$$a
   .$$$$$$a;let(p,n,rfl,o,w1,wr,q,h,_):=k;$$h;$({p,n,ρ,bf.mono s o,by rw[q];rfl})
   $(nO a)
  |succ i=>simp!
def Pj (nd:(ds.map jj).Nodup)(P:dB q ds.length)(U:fM (ltI<|ds.map jj) q ds.length):(q.toList.map λi=>ds.getD i .aG)=vz ds:=by
 let pm:(q.toList.map λi=>ds.getD i .aG).Perm ds:=by let:=P.pm.map<|λi=>ds.getD i .aG;rwa[Bt]at this
 let m:∀i,i<ds.length->jj (ds.getD i .aG)=(ds.map jj).getD i 0:=λi c=>by rw[eO c,eO (by$$$$c)];simp
 let g:(q.toList.map λi=>ds.getD i .aG).Pairwise (λa b=>gA a b=bi/\a∈ds/\b∈ds):=by
  rw[pA];ext i j c d n;let o:i<ds.length:=by rw[<-P.size];$$$$c
  let f:j<ds.length:=by rw[<-P.size];$$$$d
  $({?_,pm.mem_iff.1<|GD _,pm.mem_iff.1<|GD _});let u:=U i j n f;let r:q.toList[i]'(by$$$$c)=q.getD i 0:=by simp?[oy,ib (by$$$$c)];simp
  let t:q.toList[j]'(by$$$$d)=q.getD j 0:=by simp?[oy,ib (by$$$$d)];simp
  simp?[za,r,t];$$(gA);simp?[m _ (P.lt i o),m _<|P.lt j f];unfold ltI at u;$(decide_eq_true<|Int.le_of_lt<|of_decide_eq_true u)
 let k:(vz ds).Pairwise (λa b=>gA a b=bi/\a∈ds/\b∈ds):=by
  $(aaF (λv x p=>{p,?_,?_}) (ub (le:=gA) (λa b c h1 h2=>by
    delta gA at *;simp at *
    lia) (λa b=>by
      delta gA
      lia) ds))
  .$((gk ds gA).mem_iff.1 v)
  $((gk ds gA).mem_iff.1 x)
 $(oZ (λa b l y=>?_) (pm.trans (gk ds gA).symm) g k);let e:=ad9 (of_decide_eq_true l.1)<|of_decide_eq_true y.1;let(i,c,z):=kA l.2.1;let(j,d,B):=kA l.2.2;let C:(ds.map jj)[i]'(by$$$$c)=(ds.map jj)[j]'(by$$$$d):=by simp[z,B,e]
 let e3:=(He nd).1 C;simp!
def qH:List Dat->Option Res
 |[.L ds]=>(firstsI ds).bind λfs=>if fs.Nodup/\ds.length<64 then al (.O<|.L<|vz ds)else am
 |_=>am
def Bj (a:X.ex=[])(b:Gl X "sorted")(hm:X.mg "sorted"=am)(c:bD X e [])(d:DA X [e] fa):DE X (.Call (.Name "sorted" p) [e] [] pos) (bT qH fa) :=
 iu (Yb a) (by
   ext H0 ps Z σ H g vs ds o Q a S r k;delta qH at a;$$$$$a
   .let(fs,c,a):=oA a;$$$$$a
    .ext1 hz;$$$$$$a;let(v,vr,rfl,(p,h,rfl,j,rs),m):=r;$$m;let b:=rs.length;$({p,h,fs,ρ,Rd.mono S.sub j,EO S.sub c rs,hz.1,by rw[b];$(hz.2),λout g l hl=>?_});let(q,P,U,n):=g;let(d,_):=EB c;$$d;simp[b]at P U;let t:=Pj hz.1 P U;$$n;let f:=aB.pick rs q.toList (λi u=>by rw[b];$(lb P i u));rw[t]at f;$(k (.ref l) _ g (S.made hl) (aj.refl _) {l,ρ,{_,a9,f,S.dv hl},(S.bJ hl).2,(S.bJ hl).1,S.dM hl})
    $(nO a)
   $(nO a)) b hm (by decide +kernel) d ⋯ rfl c rfl
end
section
variable{X:Cx}
def Q5 (g:X.A.units+65<u2)(b:aae o "index" X.env (eval o X.env)=eval o X.env)(d:qF X pos e)(c:(a.endLine==pos.line)=bi)(hs:bD X e [])(ho:DD X o f)(h:DA X [e] fa):DD X (.Call (.Attribute o "index" a) [e] [] pos) (tJ f fa) :=
 Mt ho h (λi j=>sN aa4 aeW PySem.F.type_list_index (LH g) i j b d c hs ρ)
def Fn:V->List V->Hp->VK->Prop:=λx vs H Q=>∃l b xs zs,x=.ref l/\vs=[.ref b]/\H l=al (.L xs)/\Rd H b (.L zs)/\xs.length+zs.length<=c6/\Q .aG (upd H l<|.L<|xs++zs)
def v9:Dat->List Dat->Option (Dat×Dat)
 |.L xs,[.L zs]=>if xs.length+zs.length<=c6 then al (.aG,.L<|xs++zs)else am
 |_,_=>am
def Pf{K:f'}:MD K "list" Fn v9:=by
 ext H Hi p c ds vs d c' Q e sm ho r k;unfold v9 at e;$$$$$e
 .$$$$$e
  .ext1 hz;let(rfl,rfl):=sP e;let(g,h,a,i):=ho;let(v,vr,rfl,(b,us,rfl,j,f),l):=r;$$l;$({p,b,g,us,ρ,ρ,h,Rd.mono sm j,by rw[a.length,f.length];$hz,k .aG _ {_,a9,aB.append a f,i} ρ})
  $(nO e)
 $(nO e)
def Ss (j:X.N.findIdx? (·==x)=al i)(k:bV X.env.scope x)(hd:bz x)(l:cB x)(d:aae (.Name x b) "extend" X.env (eval (.Name x b) X.env)=eval (.Name x b) X.env)(g:qF X pos e)(f:(a.endLine==pos.line)=bi)(hs:bD X e [])(m:z8 (.Call (.Attribute (.Name x b) "extend" a) [e] [] pos) am c.line X.env=pure false)(n:DA X [e] fa) :
  cw X (.Expr (.Call (.Attribute (.Name x b) "extend" a) [e] [] pos) c) (m9<|kR i v9 fa) :=
 xY (En i (dI j) k (λh=>sN aa4 aeI PySem.F.type_list_extend (by
   ext pins s σ H x vs v us Q I g i h;let(l,b,xs,zs,rfl,rfl,d,j,hz,q):=h;$$g;let(u,rfl,k):=i.one;$$k;let(z,its,n,r,hl,e):=I.zy d;let(z2,a,m,f,o):=j.ok I.ao;let l2:=f.length;let hsz:its.toArray.size+a.toArray.size<=sizeLine:=by rw[gs,gs];lia
   let c:¬(!its.toArray.isEmpty&&aaH (its.toArray.size+a.toArray.size))=bi:=by rw[XW hsz,aad];$s9
   $(aco aeI {_,e,ρ} F.entry_list_extend (F.args_list_extend_2 _ _)
    (AutoSeq1.list_extend_list_list_0 l its.toArray n b a.toArray m c (by rw[gs];lia) (by lia)) {e,o,?_})
   $({.aG,_,I.x9 (its':=its++a) d e ⋯ (r.append f) ?_,ρ,q})
   rw[eR];$_) (dU (dI j) k hd l) h d g f hs ρ) Pf n) m
def uU(c:BF)(f g:EF):EF:=λZ=>(c Z).bind λp=>if p.1=bi then f p.2 else g p.2
theorem Xy (x:DT X c fc)(y:DE X a f)(z:DE X b g):DE X (.IfExp c a b pos) (uU fc f g):=by
 let(tc,A,B):=x;let(ta,C,D):=y;let(tb,E,F):=z;$({_,PH A C E,λi j Z l H G r q Q d S k=>?_});unfold uU at d;let(s,Z1,I,d):=oB d;dsimp at d;$(B i j Z l H G s Z1 _ I S λt h u w=>?_);cases s with
 |true=>rw[if_pos ρ]at d ⊢;$(D i j Z1 l t h r q Q d u λv m e n o p=>k v m e n (w.trans o) p)
 |false=>rw[if_neg ⋯]at d ⊢;$(F i j Z1 l t h r q Q d u λv m e n o p=>k v m e n (w.trans o) p)
def Et:EF:=λZ=>al (.O<|.bK [],Z)
def N1:DE X (.Dict [] [] pos) Et:=by$({_,XD,λH0 ps Z σ H a r Z' Q b S k=>?_});let(rfl,rfl):=sP b;$(λl hl=>k (.ref l) _ a (S.made hl) (aj.refl _) {l,ρ,{_,a9,ρ,S.dv hl},(S.bJ hl).2,(S.bJ hl).1,S.dM hl})
def Fs(d:dn)(o:zI)(kvs:List (Key×V)):It:=⟨λi H=>H d=al (.bA o<|.dK kvs)/\i<kvs.length,λi H v a=>a=H/\∃k x,kvs[i]?=al (k,x)/\v=kV k,λi H=>H d=al (.bA o<|.dK kvs)/\kvs.length<=i⟩
def Pb (h:kG k u=bi):RelV (kV k) u:=by
 let(i,t,rfl,rfl)||(x,t,rfl,rfl):=jZ h
 .$(⟨t,ρ⟩)
 $(⟨t,ρ⟩)
def Oe{P:hZ}{w:nL}{K:f'}{J:hF}{d it:dn}{o:zI}{kvs:List (Key×V)}{vs:List (Key×cm)}{ep:Nat}(p:KV kvs vs)(hne:d≠it)(hA:∀h:nk,h.get? d=al o->h.DictAt (cZ P w) d vs ep) :
  Turn P w K J (Fs d o kvs) [it] it (λi h=>h.IsKeyIter it d i vs.length ep) where
 mem:=⋯
 obj:=λi h st b a=>by
  let e:b=it:=by$$$$a
  $$e;let(o,e,c,d):=st;$({o,e,λv z=>by rw[d]at z;lk})
 keep:=λi h h' st k=>by let(o,e,c,d):=st;$({o,k it ⋯ o e,c,d})
 item:=by
  ext X q hw r F i f s G H E I j st t;subst q hw r;let(u,x,L,y,A,B):=j it ⋯;let(hd,g):=t;let C:=hA s.heap (I.ao d _ hd).1;let m:i<vs.length:=by rw[<-p.length];$g
  let M:=bt m;$(wpAny_pyNext_dict_item st C M λkey h' D n N=>?_);let O:Inv X f G H {s with heap:=h',toks:=s.toks}:=I.turned (λb o a e=>(N.2 b a).trans e) u x y A B;let(o',e,c,dd):=id n;let Q:kvs[i].1=vs[i].1:=by let:=congrArg (λl=>l[i]?) p.keys;simp?[dk,bt g,bt m]at this;$(Option.some.inj this)
  $({_,ρ,rl e c dd ρ {kV kvs[i].1,H,O,by rw[Q];$(Pb D),{ρ,kvs[i].1,kvs[i].2,bt g,ρ},n,λb a=>(j b a).1}})
 done:=by ext X q hw r F i f s G H E I j st t;subst q hw r;let(u,x,L,y,A,B):=j it ⋯;let(hd,g):=t;let C:=hA s.heap (I.ao d _ hd).1;$(wpAny_pyNext_dict_end (I.ok.hd F) st C (aaA (by rw[<-p.length];$g)) λh' R=>{ρ,I.turned (λb o a e=>R b o a e) u x y A B})
 self:=λ_ _ _ _ _ st h=>ac9 st h
def Inv.bA (I:Inv X a g H s)(e:H d=al (.dK kvs))(ho:s.heap.get? d=al o):Inv X a g (upd H d<|.bA o<|.dK kvs) s:=by
  let f:∀b u,H b=al u->u≠.dK kvs->b≠d:=by lia
  let un:Un X.fs [] H (upd H d<|.bA o<|.dK kvs) s.heap s.heap :=
    ⟨λb ob q _ _ _=>q,λb ob q _ _ _=>⟨ob.slots,q⟩,λb ob q n _=>by rw[aA (λz=>by simp!)];$n,λb ob q _=>⟨ob,q⟩,
     λb xs q=>by rw[aA (f b _ q ⋯)];$q,λb ob u q=>by rw[aA (f b _ q ⋯)];$q,λb ps q=>{#[],by rw[aA (f b _ q ⋯),q];simp}⟩
  let st:∀b u,cH X.prog X.w H s.heap b u->cH X.prog X.w (upd H d<|.bA o<|.dK kvs) s.heap b u:=λb u x =>
    x.gH (λc v _ q=>q) (λc q=>by rw[aA (f c _ q ⋯)];$q) λc xs q=>by rw[aA (f c _ q ⋯)];$q
  let ao:cg X.prog X.w (upd H d<|.bA o<|.dK kvs) s.heap:=λb u q=>by
    ext(h:b=d)
    · $$h;rw[a9]at q;$$$$$$q;$({ho,st _ _<|I.ao _ _ e})
    rw[aA h]at q;$(st _ _<|I.ao b u q)
  $(I.un un ao)
end
structure jF (x:eS):Prop where
 ok:True
section
variable{X:Cx}{pos:u1}
def vF(i:Nat)(g:DF):DF:=λZ=>match Z[i]? with
 | some (.D<|.cN a)=>(g Z).bind λp=>match p.1 with
  |.str k=>(df a k).map λd=>(d,p.2)
  |_=>am
 |_=>am
def S7 (hx:jF x)(m:X.N.findIdx? (·==x)=al i)(q:bV X.env.scope x)(r:X.A.units+1<u2)(hd:bz x)(c:cB x)(hs:pY b)(s:DD X b g):DD X (.Subscript (.Name x l) b pos) (vF i g):=by
 let(tb,t,u):=s;$({_,yy r (dU (dI m) q hd c) t hs,λw z Z B H C d Z' Q e S k=>?_});unfold vF at e;$$$$$e
 .ext1 ks D;let(n,Z1,E,e):=oB e;dsimp at e;$$$$$e
  .ext1 f;let(d',F,e):=oM e;$$$e;let(v0,a0,p,o,kvs,rfl,G,I):=S.D i _ D;$({_,a0,u w z Z B H C _ _ _ E S λy J h j a K=>?_});$$K;let(v,L,M):=((I.mono a).find f).1 d F;$({p,v,ρ,?_,k v J h j a M});rw[<-L];$(ι {kvs,uy f,τ {o,j.sub _ _<|a _ _ G},ρ,ρ})
  $(nO e)
 $(nO e)
end
def Rd.zK (h:Rd H a (.L xs))(h':Rd H a (.L ys)):xs=ys:=by let h||(o,h):=h<;>let h'||(o',h'):=h'<;>rw[h]at h'<;>$$$h'<;>rfl
def J8(a:dn):It:=⟨λi H=>∃xs x,Rd H a (.L xs)/\xs[i]?=al x,λi H v b=>∃p x,H p=am/\v=.ref p/\b=upd H p (.U [.int (i:Int),x])/\∀xs,Rd H a (.L xs)->xs[i]?=al x,λi H=>∃xs,Rd H a (.L xs)/\xs.length<=i⟩
def MJ{P:hZ}{w:nL}{K:f'}{elts:List hF}{x1:Nat}{L:u1}{a e it:dn}(J:e≠it) :
  Turn P w K (.Tuple elts x1 L) (J8 a) [e,it] e (λi h=>(∃l,IsEnum h e it (i:Int) l)/\h.IsListIter it a i) where
 mem:=⋯
 obj:=λi h st b g=>by
  let((l,j),o,eo,c,d):=st;simp?[eW,gW,or_false]at g;let rfl||rfl:=g
  .$({_,j,λv z=>by lk})
  $({o,eo,λv z=>by rw[d]at z;lk})
 keep:=λi h h' st k=>{st.1.imp λl j=>k e ⋯ _ j,st.2.at λo q=>k it ⋯ o q}
 item:=by
  ext X M hw N f i B s V H E I C st O;subst M hw N;let((l,j),hit):=st;let(xs,x,G,Y):=O;let(z,its,n,Q,R):=G.ok I.ao;let S:s.heap.IsList a its.toArray:={_,R,ρ,n,ρ};let(u,hu,ru):=Q.get Y;let A:=C e ⋯;let p:=C it ⋯;let elt:e<s.heap.objs.size:=fj j;let(oi,Z,_,_):=id hit;let T:it<s.heap.objs.size:=fj Z;$(wpAny_pyNext_enum_item j hit S (x:=u) (by$$$$hu) J λh1 YA U YB hz1 YC=>?_);$({_,ρ,wpAny_letOwnedTupleGo_enum YA λD YD y=>?_});let y:L' e h1 D:=y;let fr:H s.heap.objs.size=am:=I.ao.fresh<|eT _;let cp:∀b o,b≠e->b≠it->s.heap.get? b=al o->D.get? b=al o:=λb o h h' q=>y.extBut b o h<|YC b o h h' q;let YF:D.get? s.heap.objs.size=al {cls:=.type "tuple",data:=.seq #[.int i s.toks,u]}:=(y.2 _<|abh elt).trans YB;let t:∀{b:dn},b∉[e,it]->b≠e/\b≠it:=λ{b} h=>{λz=>h (by simp[z]),λz=>h (by simp[z])};let fx:∀b u,H b=al u->b≠e/\b≠it:=λb u q=>{dE q A.1,dE q p.1};let F:∀b u,H b=al u->b≠s.heap.objs.size:=λb u q=>dE q fr;$({.ref s.heap.objs.size,upd H s.heap.objs.size<|.U [.int (i:Int),x],?_,ρ,⟨_,x,fr,ρ,ρ,λys hy=>by rw[hy.zK G];$Y⟩,⟨⟨u,?_⟩,(U.extBut y.extBut<|Ne.symm J)⟩,λb g=>?_})
  .show Inv X B V (upd H s.heap.objs.size<|.U [.int (i:Int),x]) {s with heap:=D,gens:=s.gens,drawn:=s.drawn,toks:=s.toks+1};$(Inv.step (s:=s) (H:=H) (h':=D) I (g':=s.gens) (d':=s.drawn) (t':=s.toks+1) (ch:=[e,it]) (λb g=>?_) (λb o _ _ f q _=>cp b o (t f).1 (t f).2 q) (λb o _ _ f q _=>{o.slots,cp b o (t f).1 (t f).2 q})
    (λb o f q n=>by rw[aA (gD<|fj q)];$n) (λb o f q=>{o,cp b o (t f).1 (t f).2 q}) (λb ys q=>by rw[aA (F b _ q)];$q) (λb ob w q=>by rw[aA (F b _ q)];$q)
    (λb ps q=>{#[],by rw[aA (F b _ q),q];simp}) (λm hm=>?_) (λb w q=>?_) I.bare)
   .simp?[eW,gW,or_false]at g;let rfl||rfl:=g
    .$(⟨A.2.2.2.1,A.2.1,A.2.2.2.2.1,A.2.2.2.2.2⟩)
    $(⟨p.2.2.2.1,p.2.1,p.2.2.2.2.1,p.2.2.2.2.2⟩)
   .let(o,es,ep,ho,r):=hm;$({o,es,ep,cp _ o (Ne.symm A.2.1) (Ne.symm p.2.1) ho,r})
   ext(g:b=s.heap.objs.size)
   .$$g;rw[a9]at q;$$$$$$q;$({by show 2<=c6;$$(c6);decide,[.int i s.toks,u],.cons {_,ρ}<|.cons ru .nil,_,YF,rfl,_,rfl})
   rw[aA g]at q;$((I.ao b w q).gH (λc v f r=>?_) (λc r=>by rw[aA (F c _ r)];$r) λc ys r=>by rw[aA (F c _ r)];$r)
   let rfl||f:=f
   .$(cp c v (fx _ _ q).1 (fx _ _ q).2 r)
   $(cp c v (fx _ _ f).1 (fx _ _ f).2 r)
  .let:((i+1:Nat):Int)=(i:Int)+1:=by push_cast;rfl
   rw[this];$YD
  let YG:b<s.heap.objs.size:=by
   simp?[eW,gW,or_false]at g;let rfl||rfl:=g
   .$elt
   $T
  rw[aA (gD YG)];$((C b g).1)
 done:=by ext X M hw N f i B s V H E I C st O;subst M hw N;let((l,j),hit):=st;let(xs,G,hl):=O;let(z,its,n,Q,R):=G.ok I.ao;let S:s.heap.IsList a its.toArray:={_,R,ρ,n,ρ};let(f0,f1,f2,f3,f4,f5):=C it ⋯;let hll:=Q.length;$(wpAny_pyNext_enum_end (I.ok.hd f) j hit S (by simp;lia) λh' eb=>{ρ,I.turned (t':=s.toks) (λb o g e=>eb b o g e) f0 f1 f3 f4 f5})
 self:=λ_ _ _ _ _ st h=>by let((l,j),_):=st;$(agK j h)
section
variable{X:Cx}
def XI(c:TA):TI:=λd H R=>c d H λvs b=>∃a xs,vs=[.ref a]/\Rd b a (.L xs)/\R (J8 a) b
def Qg (o:Gl X "enumerate")(hm:X.mg "enumerate"=am)(r:PA X [a] j)(hs:km [a] X.env=[(false,eval a X.env)]:=by rfl):PI X (.Tuple elts m g) (.Call (.Name "enumerate" p) [a] [] pos) (XI j):=by
 $(λi s t H R I h=>Call_<|oC I o hm boot_enumerate<|HT (aI (r pos i s t H _ I h) λus c g=>?_) hs ρ);let(vs,v,d,w,x):=g;let(a,xs,rfl,y,q):=x;let(u,rfl,A):=w.one;$$A;let(z,its,n,rv,e):=y.ok d.ao;$(call_enumerate_1 e λh' k hit hsz B=>agK k ?_);$({_,[c.heap.objs.size+1,c.heap.objs.size],_,_,v,ρ,d.kept (t':=c.toks) B,MJ (show c.heap.objs.size+1≠c.heap.objs.size from Nat.succ_ne_self _),{{_,k},hit},λb l=>?_,q});let f:c.heap.objs.size<=b:=by
  simp?[eW,gW,or_false]at l;let rfl||rfl:=l
  .$(ach _)
  $(eT _)
 $(d.lj f<|d.ao.fresh f)
end
def xX(ds:List Dat):List Dat:=(hE ds.length).map λi:Nat=>.U [.int (i:Int),ds.getD i .aG]
def xZ(fa:AF):IF:=λZ=>(fa Z).bind λp=>match p.1 with
 |[.L ds]=>al (xX ds,p.2)
 |_=>am
section
variable{X:Cx}{pos:u1}{P:hZ}{w:nL}{A:ow}{R:adL->cA->Prop}{I:dn}{fp wr:List dn}{G:Array acQ->Array acQ->Prop}{n:Nat}{Pr:Nat->cm->Prop}{St:Nat->cA->Prop}{E:cm->cA->Prop}{s:cA}{apos:u1}
def Sb (u:Gl X "enumerate")(hm:X.mg "enumerate"=am)(hs:km [a] X.env=[(false,eval a X.env)])(z:DA X [a] fa):dC X (.Tuple elts r g) (.Call (.Name "enumerate" p) [a] [] pos) (xZ fa):=by
 let(t,B,q):=z;$({_,Qg u hm B hs,λC D Z F H J items Z' R b S k=>?_});unfold xZ at b;let(as,Z1,K,b):=oB b;dsimp at b;$$$$$b
 .ext1 ds;let(rfl,rfl):=sP b;$(q C D Z F H J _ _ _ K S λvs L j l M N=>?_);let(v,vr,rfl,(O,c,rfl,e,rs),Q):=N;$$Q;let hl:=rs.length;$({O,c,ρ,Rd.mono l.sub e,k _ L j l M λi H2 h=>{λd f=>?_,λhle=>{c,Rd.mono h e,?_}}})
  .let m:i<ds.length:=by let:=(cn.1 f).1;simp![xX]
   let o:d=.U [.int (i:Int),ds[i]]:=by unfold xX at f;simp?[dk,aaZ m]at f;simp at f;simp!
   subst o;let(x,ex,T):=rs.get<|bt m;$({{c,x,Rd.mono h e,ex},λy H3 U=>τ ?_});let(p,x',V,rfl,rfl,W):=U;let:=W c<|Rd.mono h e;rw[ex]at this;$$$$$$this;refine{p,_,V,ρ,λHi' Y n=>{p,_,ρ,bf.of a9,_,_,ρ,ρ,_,_,ρ,(T.mono Y).mono (jr n),ρ}}
  simp![xX]
 exact nO b
def iO(a:List Key)(v:Key):List Key:=if a.any (λx=>bd<|x=v)then a else a++[v]
def dZ(val:Nat->Key)(i:Nat):List Key:=((hE i).map val).foldl iO []
def Kj(val)(i):dZ val (i+1)=iO (dZ val i) (val i):=by$$(dZ);rw[abH,fv,afJ];rfl
theorem BG(val):∀i,(dZ val i).length<=i
 |0=>eT _
 | i+1=>by
  let ih:=BG val i;rw[Kj];$$(iO);split
  .lia
  simp!
def K6(a)(v k):(iO a v).any (λx=>bd<|x=k)=(a.any (λx=>bd<|x=k)||bd (k=v)):=by
 delta iO;ext(h:a.any (λx=>bd<|x=v)=bi)
 .rw[if_pos h];ext(e:k=v)
  .$$e;rw[h];simp
  simp[e]
 rw[if_neg h,List.any_append];ext(e:k=v)
 .$$e;simp
 let:¬v=k:=λz=>e z.symm;simp[e,this]
def Iw(a)(v):(iO a v).length=if a.any (λx=>bd<|x=v)then a.length else a.length+1:=by delta iO;split<;>simp
theorem WY(W:WalksS P w A.in1 I fp wr G n Pr St)(S:dn)(q:S∉fp)(val:Nat->Key)(J:∀i v,Pr i v->kG (val i) v=bi/\v.scannable=bi)(hb:n+1<ag3) :
  ∀(k i:Nat) (s:cA),n-i=k->i<=n->St i s->s.heap.SetOf (cZ P w) S (λa=>(dZ val i).any λx=>bd<|x=a) (dZ val i).length ->
   (∀s',Moved (S::wr) G s s'->s'.heap.SetOf (cZ P w) S (λa=>(dZ val n).any λx=>bd<|x=a) (dZ val n).length->R (.ok<|.ret .none) s') ->
   abu (hM P w) A (.builtin "set.update.loop" {[.ref S,.ref I],[]}) R s:=by
 let hw:S∉wr:=λh=>q<|W.sub _ h;let u:∀b∈wr,b∈S::wr:=λb z=>fk _ z;ext k;induction k with
 |zero =>
  ext i s K L st hs g;obtain rfl:i=n:=by lia
  apply vv Cs;$(bg (W.done s _ _ st λs' hm=>?_));$(dr<|g s' (hm.mono u) ?_);let(o,j,ep,t,ho,r):=hs;$({o,j,ep,t,hm.heap S _ hw ho,r})
 |succ k M =>
  ext i s K L st hs g;let c:i<n:=⋯;apply vv Cs;$(bg (W.item i s _ _ c st λv s' N y hm=>?_));let(d,B):=J i v N;let C:s'.heap.SetOf (cZ P w) S (λa=>(dZ val i).any λx=>bd<|x=a) (dZ val i).length:=by let(o,j,ep,O,ho,r):=hs;$({o,j,ep,O,hm.heap S _ hw ho,r})
  refine bg<|pl ?_;$$(setAdd);$(pl<|bg<|(cZ P w).pyHash d ?_);let room:(dZ val i).length+1<scanBound:=by let:=BG val i;lia
  refine wpAny_setAddHashed_of d B C room λh' f hS2=>?_;let D:h'.SetOf (cZ P w) S (λa=>(dZ val<|i+1).any λx=>bd<|x=a) (dZ val<|i+1).length:=by rw[Kj,Iw];let e:(λa=>(dZ val i).any (λx=>bd<|x=a)||bd (a=val i))=λa=>(iO (dZ val i)<|val i).any λx=>bd (x=a):=funext λa=>(K6 _ _ _).symm;simp!
  refine dr {aaJ qy _,M (i+1) _ ∅ c (W.frame _ s' _ _ y (ach _) λb z o e=>?_) D λH l p=>?_}
  .rwa[f.2 b (λh:b=S=>q<|h ▸ z)]
  refine g H (Moved.trans W.gtrans ((hm.mono u).then_heap (ach _) λb o z e=>?_) l) p;rwa[f.2 b (λh:b=S=>z<|h ▸ fm)]
def PD (hh:A.handled=am)(hl:s.heap.IsList l items)(m:∀i v,items[i]?=al v->kG (val i) v=bi/\v.scannable=bi)(p:items.size+1<ag3)(h:∀(h':nk) (tk:Nat),h'.SetOf (cZ P w) s.heap.objs.size (λa=>(dZ val items.size).any λx=>bd<|x=a) (dZ val items.size).length->(∀b o,b<s.heap.objs.size->s.heap.get? b=al o->h'.get? b=al o)->Q (.ref s.heap.objs.size) {s with heap:=h',toks:=tk}) :
  gj (hM P w) A (call (.type "set") [.ref l]) Q E s:=by
 $(JD hl (λled R I h1 eh c f d g hit k=>?_) h);let j:A.in1.in1.in1.handled=am:=by simp[hh]
 $(WY ((Walks.list j _ l c items).toS) s.heap.objs.size f val m p (items.size-0) 0 _ ⋯ (nT _) ⟨hit,g⟩ {_,#[],0,_,d,⟨ρ,ρ,ρ⟩,ρ,λe q=>by simp at q,λk=>by simp[dZ],⋯,by rfl,rfl} k)
def y8(P:hZ)(w:nL)(a:dn)(n:Nat):HO:=.ext λh=>n<4096/\∃S,h.SetOf (cZ P w) a S n
def jO(ys:List eS):Nat:=(dZ (λi=>uy<|(ys[i]?).getD aaz) ys.length).length
def VQ(l:X.calm=bi):bN X (.type "set") (λxs H Q=>∃(p:dn) (ys:List eS),xs=[.ref p]/\Rd H p (.L<|ys.map V.str)/\ys.length<1000/\∀a,H a=am->Q (.ref a) (upd H a<|y8 X.prog X.w a<|jO ys)):=by
 ext pins s σ H xs us Q I r h;let(p,ys,rfl,m,hz,q):=h;let(u,rfl,x):=r.one;$$x;let(z,its,n,d,e):=m.ok I.ao;let y:s.heap.IsList p its.toArray:={_,e,ρ,n,ρ};let f:its.length=ys.length:=by let:=d.length;$$$$this.symm
 $(PD (val:=λi=>uy<|(ys[i]?).getD aaz) (I.ok.hd l) y (λi v B=>?_) (by rw[gs];$$(ag3);$_) λh' tk c C=>?_)
 .let(t,rfl):=Ii d (show its[i]?=al v by$$$$B);$({GL _ t,ρ})
 let hsz:its.toArray.size=ys.length:=by rw[gs];$f
 rw[hsz]at c;$({.ref s.heap.objs.size,upd H s.heap.objs.size<|y8 X.prog X.w s.heap.objs.size<|jO ys,?_,ρ,q _<|I.ao.fresh (a:=s.heap.objs.size)<|eT _});let hle:jO ys<=ys.length:=BG _ _;$(I.laid (λb o g=>C b o (fj g) g) (eT _) {{by lia,_,c},?_,λh1 h2 ⟨F,S,o,j,ep,t,ho,r⟩ k=>{F,S,o,j,ep,t,k o ho,r}});let(o,j,ep,t,ho,_):=c;$(⟨o,ho⟩)
def Py:bN X (.builtin "len") (λxs H Q=>∃(a:dn) (n:Nat),xs=[.ref a]/\H a=al (y8 X.prog X.w a n)/\Q (.int n) H):=by ext pins s σ H xs us Q I r h;let(a,n,rfl,c,q):=h;let(u,rfl,d):=r.one;$$d;let((hn,S,o,e,ep,t,ho,b,hd,hel,hmem,hb,f,hsz),_,_):=I.ao a _ c;$$hsz;$(call_len_set ho b hd f (by lia) {.int e.size,H,I.tok _,{_,ρ},q})
def xE(f:DF):DF:=λZ=>(f Z).bind λp=>match p.1 with
 |.L ds=>(dS ds).bind λys=>if ys.length<1000 then al (.int (jO ys:Nat),p.2)else am
 |_=>am
def Yc (y:X.calm=bi)(z:Gl X "len")(hm:X.mg "len"=am)(m:Gl X "set")(o:X.mg "set"=am)(j:bD X e [])(q:km [.Call (.Name "set" l) [e] [] i] X.env=(false,eval (.Call (.Name "set" l) [e] [] i) X.env)::km [] X.env)(h:DD X e f):DD X (.Call (.Name "len" p) [.Call (.Name "set" l) [e] [] i] [] pos) (xE f):=by
 let(t,pt,B):=h;$({_,kD Py z hm ad1 (bW (wH (VQ y) m o ρ (bW pt fF j) ⋯ ρ j ρ) fF q) ⋯ ρ q ρ,λC D Z F H J d Z' Q g S k=>?_});let(c,Z1,K,g):=oB g;dsimp at g;$$$$$g
 .let(ys,L,g):=oA g;$$$$$g
  .ext1 hz;let(rfl,rfl):=sP g;$(B C D Z F H J _ _ _ K S λv H1 r u M N=>?_);let(a,ws,rfl,x,rs):=N;rw[kL L rs]at x;$({a,ys,ρ,Rd.mono u.sub x,hz,λb O=>{b,jO ys,ρ,a9,?_}});$(k _ _ r (u.made O) M ρ)
  $(nO g)
 $(nO g)
def TK (hm:acP [.LtE,.Lt] [b,c]=bn)(d:DD X a f)(e:DD X b g)(i:DD X c h):DD X (.Compare a [.LtE,.Lt] [b,c] pos) (kd iP Ki f g h):=GS tW tD Cf (tS λ_ _ _ _=>rfl) d e i hm
structure AO (mg:eS->Option cm):Prop where
 any:mg "any"=am
 sum:mg "sum"=am
 set:mg "set"=am
 enum:mg "enumerate"=am
theorem Gu (put:c->DS)(keep:c->Bool)(val:c->Dat):∀(xs:List c) (a:List Dat) (Z:DS),a.length+xs.length<=c6 ->
  (∀x∈xs,∀Z,(Z=j\/∃y,Z=put y)->g (enc x) Z=al (put x))->(∀x∈xs,fc (put x)=al (keep x,put x))->(∀x∈xs,keep x=bi->fe (put x)=al (val x,put x))->(∀x∈xs,noOwn (put x)=bi)->(Z=j\/∃y,Z=put y) ->
  ∃d,compLoop g fc fe (xs.map enc) a Z=al (a++(xs.filter keep).map val,d)
 |[],a,Z,_,_,_,_,_,_=>{Z,by simp[compLoop]}
 | x::xs,a,Z,hz,k,l,m,o,hd=>by
  simp at hz;let p:=k x (fm ..) Z hd;let q:=l x<|fm ..;let r:=o x<|fm ..;let f:=λh (t:h.length+xs.length<=c6)=>Gu put keep val xs h (put x) t (λy b=>k y<|fk _ b) (λy b=>l y<|fk _ b) (λy b=>m y<|fk _ b) (λy b=>o y<|fk _ b)<|τ ⟨x,ρ⟩;cases i:keep x with
  |false=>let(d,e):=f a ∅;$({d,?_});show(g (enc x) Z).bind _=_;rw[p];show(fc<|put x).bind _=_;rw[q,i];show(if noOwn (put x)=bi then compLoop g fc fe (xs.map enc) a (put x)else am)=_;rw[if_pos r,e,zb,i];simp
  |true=>let(d,e):=f (a++[val x]) (by rw[eR];simp;$_);$({d,?_});show(g (enc x) Z).bind _=_;rw[p];show(fc<|put x).bind _=_;rw[q,i];show(fe<|put x).bind _=_;rw[m x (fm ..) i];show(if a.length<c6/\noOwn (put x)=bi then _ else am)=_;rw[if_pos {∅,r},e,zb,i];simp
def uB{a:Type}{enc:a->Dat}{caps:List (Option Nat)}{fi:IF}{g:GF}{fc:BF}{fe:DF}{xs:List a}{Z Z1 Z2:DS}(put:a->DS)(keep:a->Bool)(val:a->Dat)(b:fi Z=al (xs.map enc,Z1))(c:bA am caps Z1=Z2)(hz:xs.length<=c6)
 (d:∀x∈xs,∀Z,(Z=cz caps Z2\/∃y,Z=put y)->g (enc x) Z=al (put x))(f:∀x∈xs,fc (put x)=al (keep x,put x))(h:∀x∈xs,keep x=bi->fe (put x)=al (val x,put x))(i:∀x∈xs,noOwn (put x)=bi) :
  fD caps am fi g fc fe Z=al (.O<|.L<|(xs.filter keep).map val,Z2):=by
 let(Z',e):=Gu put keep val xs [] (cz caps Z2) (by$$$$hz) d f h i<|ι ρ;$(J6 b c e)
def cX{a:Type}{enc:a->Dat}{caps:List (Option Nat)}{fi:IF}{g:GF}{fe:DF}{xs:List a}{Z Z1 Z2:DS}(put:a->DS)(val:a->Dat)(b:fi Z=al (xs.map enc,Z1))(c:bA am caps Z1=Z2)(hz:xs.length<=c6)
 (d:∀x∈xs,∀Z,(Z=cz caps Z2\/∃y,Z=put y)->g (enc x) Z=al (put x))(e:∀x∈xs,fe (put x)=al (val x,put x))(f:∀x∈xs,noOwn (put x)=bi) :
  fD caps am fi g (λZ=>al (true,Z)) fe Z=al (.O<|.L<|xs.map val,Z2):=by
 let:=uB (enc:=enc) (caps:=caps) (fi:=fi) (g:=g) (fc:=λZ=>al (true,Z)) (fe:=fe) (xs:=xs) (Z:=Z) put (λ_=>true) val b c hz d (λ_ _=>rfl) (λx h _=>e x h) f;rw[acW.2 (by intros;rfl)]at this;$this
theorem Cr (f):∀cs:List a,lh (cs.map λc=>.int<|f c)=al (cs.map f)
 |[]=>rfl
 |c::cs=>by show(lh (cs.map λc=>.int<|f c)).map (f c::·)=_;rw[Cr f cs];rfl
theorem oh (f):∀cs:List a,dS (cs.map λc=>.str<|f c)=al (cs.map f)
 |[]=>rfl
 |c::cs=>by show(dS (cs.map λc=>.str<|f c)).map (f c::·)=_;rw[oh f cs];rfl
def Cp{a:Type}(f:a->Bool)(cs:List a):n8 [.L (cs.map λc=>.bl<|f c)]=al (.D<|.bl<|cs.all f):=by show(jN _).map _=_;rw[sG f];simp
def Ja{a:Type}(f:a->Bool)(cs:List a):uT [.L (cs.map λc=>.bl<|f c)]=al (.D<|.bl<|cs.any f):=by show(jN _).map _=_;rw[sG f];simp
def Sq (f:a->Int)(cs:List a):vW [.L (cs.map λc=>.int<|f c)]=al (.D<|.int (cs.map f).sum):=by show(lh _).map _=_;rw[Cr f];rfl
def lO (f)(h:cs≠[]):xC [.L (cs.map λc=>.int<|f c)]=al (.D<|.int<|fI<|cs.map f):=by show(lh _).bind _=_;simp![Cr]
def yL{a:Type}{f:DF}{Z Z1:DS}{cs:List a}(g:a->eS)(h:f Z=al (.L (cs.map λc=>.str<|g c),Z1))(hz:cs.length<1000):xE f Z=al (.int (jO (cs.map g):Nat),Z1):=by simp![xE,oh]
def Mr (h:fa Z=al ([.L ds],Z1)):xZ fa Z=al ((hE ds.length).map λi:Nat=>Dat.U [.int (i:Int),ds.getD i .aG],Z1):=by$$(xZ);rw[h];rfl
theorem DQ:∀(more a:List (Key×V)),((a++more).map (·.1)).Nodup->mP a more=a++more
 |[],a,_=>by show a=_;rw[nS]
 | p::r,a,h=>by
  let e:putK a p.1 p.2=a++[p]:=by
   delta putK;rw[if_neg];ext z;let(q,b,e):=zc.1 z;let e:q.1=p.1:=by$$$$e
   rw[fv,ka]at h;$(h.2.2 q.1 (ae.2 ⟨q,b,ρ⟩) p.1 ⋯ e)
  show mP (putK a p.1 p.2) r=_;simp?[e,DQ r (a++[p]) (by rw[pw];$h),pw];rfl
def pZ:List Dat->Option Res
 |[.L ds]=>al (.D<|.U ds)
 |_=>am
def Xm (a:Gl X "tuple")(hm:X.mg "tuple"=am)(b:bD X e [])(c:DA X [e] fa):DE X (.Call (.Name "tuple" p) [e] [] pos) (bT pZ fa):=xq Jy (by
  ext H0 ps Z σ H Hi vs ds o Q e S r k;delta pZ at e;$$$$$e
  .$$$$$$e;let(v,vr,rfl,(a,b,rfl,d,rs),f):=r;$$f;$({a,b,ρ,ι {ι<|Rd.mono S.sub d,λl hl=>?_}});let(g,c):=S.laid hl;$(k (.ref l) _ _ g c {l,_,ρ,bf.of a9,aB.mono c rs})
  $(nO e)) a hm (by decide +kernel) c ⋯ ρ b ρ
end
section
open Sem (wp)
def IZ:ah0 table "dict.update.loop"=al ZI.«dict.update.loop»:=ag7 (by kernel_rfl)
def vt:plainId "dict.update.loop"=bi:=by decide +kernel
def LG (f:s.heap.IsList a xs)(hd:∀o,s.heap.get? a=al o->o.dict=am)(j:acm (.type "list") name=pure am)(l:(["__module__","__name__","__qualname__","__doc__","__annotations__"]:List eS).contains name=bn)(hA:A.handled=am)(h:∀h' tk,(∀b o,s.heap.get? b=al o->h'.get? b=al o)->Q am {s with heap:=h',toks:=tk})(hsz:name.length+100<=sizeLine:=by size_fits) :
  gj (hM prog w) A (af1 (.ref a) name) Q E s:=by
 let(o,f,p,k,i):=f;let hd:=hd o f;let(c,bK,D,sl):=o;subst p i hd;let(r,g,d,tk,os):=s;let q:∀m,(⟨r,g,d,m,os⟩:cA).TypeIs (.ref a) "list":=λ_=>{_,f,ρ};let f1:=sub_AttributeError;let f3:=aeH.lookup;let f4:=F.slot_list_getattribute.bind<|.ref a;let f5:=am_list_getattr_none;unfold af1 getAttrBy? getAttrBy
 repeat (any_goals (first|assumption|$(q _)|((with_reducible show gj _ _ (call (abp "list.__getattribute__") _ _) _ _ _);$(aco aeH (q _) am_entry_list_getattribute (F.args_list_getattribute_2 _ _) (meets_getattribute_miss_list a xs k sl name _ j l hsz) ⟨f,hA,λh' m e n=>?_⟩))|wp_step))
 let(t',u',he):=n.there;show gj _ _ (agr _ _ _ _ _ _ _) _ _ _;$$(agr)
 repeat (any_goals (first|assumption|wp_step))
 $(h _ _ n.of.keeps)
section
variable{prog:hZ}{w:nL}{K:Type}[DecidableEq K]{knd:KeyKind prog w K}{A:ow}{E:cm->cA->Prop}{s:cA}
def Wh (h:abx s.heap a #[k,v])(q:Q [k,v] s):gj (hM prog w) A (adH<|.ref a) Q E s:=by let(o,ho,b,n,hd):=h;$(bg<|ab8 (⟨o,ho,b⟩) ?_);$(bg<|acj ho hd ?_);$(dr q)
structure ze (knd:KeyKind prog w K) (h:nk) (u:cm) (kv:K×cm) (a:dn) (k:cm):Prop where
 at_:u=.ref a
 U:abx h a #[k,kv.2]
 key:knd.is kv.1 k=bi
theorem RP (hh:A.handled=am)(y:l≠I)(h:d≠I)(N:d≠l)(hl:more.length=items.size)(hz:more.length<=c6) :
  ∀(m i:Nat) (s:cA),items.size-i=m->i<=items.size->s.heap.IsListIter I l i->s.heap.IsList l items->s.heap.DictOf knd d (aft []<|more.take i) ->
   (∀(j:Nat) (u:cm) (x:K×cm),items[j]?=al u->more[j]?=al x->∃a k,ze knd s.heap u x a k/\a≠I/\a≠d) ->
   (∀h' tk,h'.DictOf knd d (aft [] more)->(∀b o,b≠I->b≠d->s.heap.get? b=al o->h'.get? b=al o)->R (.ok<|.ret .none) {s with heap:=h',toks:=tk}) ->
   ∀(n:Int) (t:Tok),abu (hM prog w) A (.builtin "dict.update.loop" {[.ref d,.ref I,.int n t,.none],[]}) R s:=by
 ext m;induction m with
 |zero=>ext i s hm Z st D hd F G n t;let O:i=items.size:=⋯;$$O;apply vv IZ;delta ZI.«dict.update.loop»;let W:=Walks.list (prog:=prog) (w:=w) (A:=A.in1) (by simp[hh]) I l y items;$(bg (W.done s _ _ ⟨st,D⟩ λh' tk k=>?_));$(bg<|dr ?_);rw[acD (by lia)]at hd;$(dr (G h' tk ?_ λb o f H e=>k b o (by$$$$f) e));let(o,J,ep,ho,r):=hd;$({o,J,ep,k d o (by$$$$h) ho,r})
 |succ m ih =>
  ext i s hm Z st D hd F G n t;let z:i<items.size:=⋯;apply vv IZ;delta ZI.«dict.update.loop»;let W:=Walks.list (prog:=prog) (w:=w) (A:=A.in1) (by simp[hh]) I l y items;$(bg (W.item i s _ _ z ⟨st,D⟩ λv f tk hv B k1=>?_));let C:more[i]?=al more[i]:=bt ⋯;let(a,k,L,na,nd):=F i v _ hv C;let ev:=L.at_;$$ev;let q:∀b o,b≠I->s.heap.get? b=al o->f.get? b=al o:=λb o g e=>k1 b o (by$$$$g) e;let P:f.DictOf knd d (aft []<|more.take i):=by let(o,J,ep,ho,r):=hd;$({o,J,ep,q d o h ho,r})
  let Q:abx f a #[k,more[i].2]:=by let(o,ho,r):=L.U;$({o,q a o na ho,r})
  let hsz:(aft []<|more.take i).length<=sizeLine:=by let:=merged_length_le ([]:List (K×cm))<|more.take i;simp at this;lia
  $(bg<|pl<|bg<|wpAny_tryCatch<|Wh Q ?_);$(pl (wpAny_dictSet_pairs L.key P λH S M=>?_));let k2:∀b o,b≠I->b≠d->s.heap.get? b=al o->H.get? b=al o:=λb o g c e=>(M.2 b c).trans (q b o g e);$(dr {aaJ vt _,ih (i+1) {s with heap:=H,toks:=tk+1} ⋯ z ?_ ?_ ?_ ?_ ?_ _ _})
  .let(o,ho,r):=B.1;$({o,(M.2 I<|Ne.symm h).trans ho,r})
  .let(o,ho,r):=B.2;$({o,(M.2 l<|Ne.symm N).trans ho,r})
  .rwa[merged_take_succ _ _ _ _ C]
  .ext j u x hu T;let(a,k,p,U,V):=F j u x hu T;$({a,k,{p.at_,?_,p.key},U,V});let(o,ho,r):=p.U;$({o,k2 a o U V ho,r})
  $(λh' X Y k'=>G h' X Y λb o g c e=>k' b o g c<|k2 b o g c e)
def R6 (hh:A.handled=am)(v:s.heap.IsList l items)(hd:∀o,s.heap.get? l=al o->o.dict=am)(hl:more.length=items.size)(hz:more.length<=c6)(H:∀(j:Nat) (u:cm) (m:K×cm),items[j]?=al u->more[j]?=al m->∃a k,ze knd s.heap u m a k)(h:∀h' tk,h'.DictOf knd s.heap.objs.size (aft [] more)->(∀b o,s.heap.get? b=al o->h'.get? b=al o)->Q (.ref s.heap.objs.size) {s with heap:=h',toks:=tk}) :
  gj (hM prog w) A (call (.type "dict") [.ref l]) Q E s:=by
 apply callType_codes (Q₁:=λobj f=>obj=.ref s.heap.objs.size/\f={s with heap:=s.heap.push {cls:=.type "dict",data:=.dict #[]} }) F.kt_called_dict (F.kt_typeCall_dict_1 _) F.entry_dict_init<|kt_code_dict_new _ ⟨ρ,ρ⟩;ext obj f ⟨rfl,rfl⟩;let c:(s.heap.push {cls:=.type "dict",data:=.dict #[]}).DictOf knd s.heap.objs.size []:=aeC s.heap;let g:=v.push {cls:=.type "dict",data:=.dict #[]};let n:=let⟨_,ho,_⟩:=v;fj ho
 let x:∀o,(s.heap.push {cls:=.type "dict",data:=.dict #[]}).get? l=al o->o.dict=am:=λo e=>by let(o',ho,r):=v;rw[eu _ ho]at e;$$$$$$e;$(hd _ ho)
 $({c.typeIs,F.args_dict_init_2 _ _,?_});delta ZI.«dict.__init__»;apply bg;$(bg<|afM c.typeIs ?_);apply dr;$(bg<|ab8 g.typeIs ?_);$(bg<|LG g x (by rw[ahr,afQ];kernel_rfl) (by decide +kernel) (by simp[hh]) (λi tk k1=>?_) (by decide +kernel));$(bg<|wpAny_rule ?_);let q:i.IsList l items:=by let(o,ho,r):=g;$({o,k1 _ _ ho,r})
 $(bg<|ZG (s:={s with heap:=i,toks:=tk}) q ?_);let t:i.DictOf knd s.heap.objs.size []:=by let(o,y,ep,ho,r):=c;$({o,y,ep,k1 _ _ ho,r})
 let d:s.heap.objs.size<i.objs.size:=by let(o,y,ep,ho,r):=t;$(fj ho)
 let z:∀b o,s.heap.get? b=al o->i.get? b=al o:=λb o e=>k1 b o<|eu _ e;$(dr {aaJ vt _,?_});$(RP (knd:=knd) (by simp[hh]) (gD<|aaT n d) (gD d) (abh n) hl hz items.size 0 _ ⋯ (nT _) {_,gi _ ρ,ρ,ρ} (q.push _) ?_ ?_ ?_ _ _)
 .$(t.push _)
 .ext j u m I B;let(a,k,p):=H j u m I B;let C:=let⟨_,ho,_⟩:=p.U;fj ho
  $({a,k,{p.at_,?_,p.key},gD<|aaT C d,gD C});let(o,ho,r):=p.U;$({o,eu _<|z _ _ ho,r})
 ext h' D G J;$({ρ,h h' D G λb o e=>J b o ?_ ?_<|eu _<|z _ _ e})
 .$(gD<|aaT (fj e) d)
 $(gD<|fj e)
end
end
section
variable{X:Cx}{pins:List (dn×zI)}{σ:St}{H:Hp}{s:cA}{pos:u1}
def oI(K:f')(H:Hp)(r:V)(b:Key×V):Prop:=∃a,r=.ref a/\bf K H a [kV b.1,b.2]
theorem X5(I:Inv X pins σ H s)(c:aO rows its)(b:aaO (oI X.K H) rows kvs):∃more:List (Key×cm),KV kvs more/\aaO (λu d=>∃a k,ze (cZ X.prog X.w) s.heap u d a k) its more:=by
 induction c generalizing kvs with
 |nil=>$$$b;$({[],.nil,.nil})
 |cons e _ f =>
  cases b with
  |cons g b =>
   let(more,h,i):=f b;let(a,rfl,j):=g;$$e;let(its',l,U,_):=I.tuple j;cases l with
   |cons m n =>
    cases n with
    |cons o p =>
     $$$p;ext1 k v;$({(_,v)::more,.cons ⟨ρ,o⟩ h,.cons {a,k,ρ,by$$$$U,pS m} i})
theorem G1 (p:aaO F l₁ l₂):∀(j:Nat) a b,l₁[j]?=al a->l₂[j]?=al b->F a b:=by
 induction p with
 |nil=>ext j a b h;simp at h
 |cons hf _ e =>
  ext j a b h h';cases j with
  |zero=>simp!
  |succ j=>$(e j a b (by$$$$h) (by$$$$h'))
theorem xy (p:aaO F l₁ l₂):l₁.length=l₂.length:=by
 induction p with
 |nil=>rfl
 |cons _ _ c=>$(congrArg (·+1) c)
def CJ(K:f'):List V->Hp->VK->Prop:=λxs H Q=>∃p rows kvs,xs=[.ref p]/\Rd H p (.L rows)/\aaO (oI K H) rows kvs/\∀q,H q=am->Q (.ref q) (upd H q<|.dK<|mP [] kvs)
def Ub(te:TE):TI:=λσ H R=>te σ H λv a=>∃d o kvs,v=.ref d/\a d=al (.bA o<|.dK kvs)/\R (Fs d o kvs) a
def UG (l:PE X e te):PI X k e (Ub te):=by$(λpins s σ H R I h=>aI (l pins s σ H _ I h) λv a g=>?_);let(y,H1,c,m,n):=g;let(d,o,kvs,rfl,hd,q):=n;$$m;let(ho,z,lo,vs,p,i):=c.ao d _ hd;let(ep,D):=i.dictAt;let(o',r,f,g):=id D;rw[ho]at f;$$$$$$f;let hA:∀h:nk,h.get? d=al o->h.DictAt (cZ X.prog X.w) d vs ep:=λh e=>⟨o,r,e,g⟩;$(wpAny_pyIter_dict lo D {a.heap.objs.size,[a.heap.objs.size],_,_,_,ρ,c.kept λb o e=>eu _ e,Oe p (gD<|fj ho) hA,{_,gi _ ρ,ρ,ρ},λb t=>?_,q});rw[show b=a.heap.objs.size by$$$$t];$(c.lj (eT _)<|c.ao.fresh<|eT _)
def k9:List Dat->Option (List<|eS×Dat)
 |[]=>al []
 |.U [.str k,d]::r=>(k9 r).map λa=>(k,d)::a
 |_=>am
def tq:List Dat->Option Res
 |[.bK a]=>al (.O<|.bK a)
 |[.L ds]=>(k9 ds).bind λa=>if(a.map (·.1)).Nodup then al (.O<|.bK a)else am
 |_=>am
theorem ES{K:f'}{H:Hp}:∀{ds:List Dat}{vs:List V}{b:List (eS×Dat)},k9 ds=al b->aB K H ds vs->∃kvs,bO K H b kvs/\aaO (oI K H) vs kvs
 |[],_,_,e,r=>by$$$$$$e;cases(r);$({[],ρ,.nil})
 | d::ds,_,_,e,r=>by
  unfold k9 at e;$$$$$e;simp!
  .ext1 k d' r' h;$$$h;let(b,f,e):=oM e;$$$$$$e;let(v,vr,rfl,(a,ws,rfl,g,rs),i):=r;let(kvs,j,l):=ES f i;let(v1,r1,rfl,m,c,r2,rfl,n,o):=rs;$$m;cases(o);$({(uy k,c)::kvs,⟨c,kvs,ρ,n,j⟩,.cons ⟨a,ρ,g⟩ l})
  $(nO e)
def oI.mono{K:f'}{H b:Hp}(s:aj H b){vs:List V}{kvs:List (Key×V)}(h:aaO (oI K H) vs kvs):aaO (oI K b) vs kvs:=Paired.tj h λ_ _ ⟨a,e,q⟩=>{a,e,bf.mono s q}
def TH:CD X (λxs H Q=>(λxs H Q=>∃a kvs,xs=[.ref a]/\Rd H a (.dK kvs)/\∀p,H p=am->Q (.ref p) (upd H p<|.dK kvs)) xs H Q\/CJ X.K xs H Q) tq:=by
 ext g i Z σ H c vs ds o Q e S r k;delta tq at e;$$$$$e
 .ext1 d;$(ι<|Te g i Z σ H c vs [.bK d] o Q e S r k)
 .let(d,j,e):=oA e;$$$$$e
  .ext1 nd;$$$$$$e;let(v,vr,rfl,(p,l,rfl,m,rs),n):=r;$$n;let(kvs,f,t):=ES j rs;let u:(kvs.map (·.1)).Nodup:=by rw[tU f];$(gd.2 (nd.imp λh z=>h<|Sum.inr.inj z))
   $(τ {p,l,kvs,ρ,Rd.mono S.sub m,oI.mono S.sub t,λq b=>?_});simp[DQ kvs [] (by$$$$u),List.nil_append];$(k (.ref q) _ c (S.made b) (aj.refl _) {q,ρ,{kvs,a9,f,S.dv b},(S.bJ b).2,(S.bJ b).1,S.dM b})
  $(nO e)
 $(nO e)
def V6 (a:X.calm=bi)(b:Gl X "dict")(hm:X.mg "dict"=am)(c:bD X e [])(d:DA X [e] fa):DE X (.Call (.Name "dict" p) [e] [] pos) (bT tq fa):=xq (bN.or OP ((λf=>by
  ext pins s σ H xs us Q I r h;let(p,rows,kvs,rfl,g,c,q):=h;let(u,rfl,i):=r.one;$$i;let(z,its,n,k,d):=g.ok I.ao;let(more,b,pm):=X5 I k c;let l:=xy pm;let e2:=xy b;let e3:=xy c;let hz:(mP [] kvs).length<=sizeLine:=by let:=Dd kvs [];simp at this;$_
  $(R6 (I.ok.hd f) {_,d,ρ,n,ρ} (λo e=>by rw[d]at e;$$$$$$e;rfl) (by simp[l]) ∅ (λj u b m t=>G1 pm j u b (by$$$$m) t) λh' tk dd kp=>?_)
  $({.ref s.heap.objs.size,_,I.laid kp (eT _)<|BK hz (beq_eq_false_iff_ne.2<|Ne.symm<|gD I.vK) (b.merge .nil) dd,ρ,q _<|I.ao.fresh<|eT _})) a)) TH b hm (by decide +kernel) d ⋯ ρ c ρ
def JJ(i:Nat):IF:=λZ=>match Z[i]? with
 |some (.D<|.cN a)=>al (a.map λk=>.str k.1,Z)
 |_=>am
theorem Ou (hx:jF x)(t:X.N.findIdx? (·==x)=al i)(u:bV X.env.scope x)(hd:bz x)(h:cB x):dC X q (.Name x r) (JJ i):=by
 refine{_,UG<|dU (dI t) u hd h,λH0 ps Z σ H Hi items Z' R b S k=>?_};unfold JJ at b;$$$$$b
 .ext1 l e;let(rfl,rfl):=sP b;let(v,w,p,o,kvs,rfl,f,g):=S.D i _ e;$({_,w,p,o,kvs,ρ,S.sub _ _ f,k _ _ _ S (aj.refl _) λj H2 m=>{λd c=>?_,λhl=>{m _ _ f,?_}}})
  .let z:j<l.length:=by let:=(cn.1 c).1;$$$$this
   refine{{m _ _ f,by rw[bO.length g];$z},λv H3 A=>ι ?_};let(rfl,B,xx,C,rfl):=A;$({ρ,?_});let a:(kvs.map (·.1))[j]?=al B:=by rw[dk,C];rfl
   simp?[tU g,dk]at a;rw[dk]at c;cases n:l[j]? with
   |none=>rw[n]at a;$(nO a)
   |some y=>rw[n]at a c;$$$$$$a;$$$$$$c;rfl
  let hl':=bO.length g;simp!
 exact nO b
end
section
open Sem (wp)
structure gU (h:nk) (d:dn) (es:Array abk) (ep:Nat):Prop where
 ok:∃o,h.get? d=al o/\o.ExactDict/\o.data=.dict es ep
section
variable{prog:hZ}{w:nL}{A:ow}{E:cm->cA->Prop}{s:cA}
def gU.ty (h:gU s.heap d c ep):s.TypeIs (.ref d) "dict":=let⟨o,a,b,_⟩:=h.ok;⟨o,a,b.1⟩
def GZ (hd:(d==NN)=bn)(r:gU s.heap d a ep)(q:Q (.ref s.heap.objs.size) {s with heap:=s.heap.push {cls:=.type "dict_keyiterator",data:=.fields #[.ref d,.int 0 0,.int a.size 0,.int ep 0]} }):gj (hM prog w) A (afs<|.ref d) Q E s:=by let ty:=r.ty;let(o,b,e2,c):=r.ok;$(agJ ty agy<|se agy ty F.entry_dict_iter ?z<|F.args_dict_iter_1 _);delta ZI.«dict.__iter__» ahG;$(bg<|bg<|afM ty ?B);$(dr ?C);$(show gj _ _ (adM d >>= _) _ _ s from ?D);delta adM;rw[if_neg (by simp!)];$(bg<|dr<|bg<|acz b c<|bg<|aeu b c<|bg<|rp<|dr ⟨_,ρ,"dict_keyiterator",_,⟨_,gi _ ρ,ρ⟩,L0.lookup,?G⟩);simpa[aa9]using q
def HA (hit:s.heap.IsKeyIter it d i a.size ep)(r:gU s.heap d a ep)(f:i<a.size)(q:∀h',h'.IsKeyIter it d (i+1) a.size ep->L' it s.heap h'->Q (al a[i].key) {s with heap:=h'}):gj (hM prog w) A (aa2<|.ref it) Q E s:=by
 let ty:=hit.typeIs;let(x,e,j,b):=id hit;let(o,g,e2,h):=r.ok;let O:acA "dict_keyiterator"=bn:=ρ;$(bg<|adD<|L1 ty L0<|se L0 ty aec ?z<|ad6 _);$(bg<|dr<|bg<|bg ?D)
 first|$(bg (aay ty<|dr ?B))|$(bg<|abb ty<|dr ?B)
 $(bg<|ac' e b ?G);$(?H);$(bg<|dr<|bg<|acz g h ?I);rw[if_neg ⋯];$(bg<|dr<|bg<|aeu g h ?J);rw[if_neg ⋯];$(dr ?K);simp[ib f];$(bg ?L)
 first|$(bg (aay ty<|dr ?C))|$(bg<|abb ty<|dr ?C)
 $(bg<|afO ty ?M);$(show gj _ _ (setField (.ref it) 1 (aa9<|(i:Int)+1) >>= _) _ _ s from bg<|aaq e b ⋯ ?N);let c:(s.heap.update it (abB (·.setIfInBounds 1 (aa9<|(i:Int)+1)))).IsKeyIter it d (i+1) a.size ep:={_,ua _ e<|abq<|Hz b _,(adx ..).trans j,by rw[Hz b];simp[aa9]};$(bg<|pl<|bg<|afO c.typeIs ?O);$(dr<|dr ⟨_,ρ,dr<|q _ c<|sH ..⟩)
def GA (hh:A.handled=am)(hit:s.heap.IsKeyIter it d i c.size ep)(r:gU s.heap d c ep)(e:c.size<=i)(q:∀h',aeV it s.heap h'->Q am {s with heap:=h'}):gj (hM prog w) A (aa2<|.ref it) Q E s:=by
 let ty:=hit.typeIs;let(x,f,x2,g):=id hit;let(o,h,e2,j):=r.ok;let O:acA "dict_keyiterator"=bn:=⋯;$$(aa2);$(bg<|adD<|L1 ty L0<|se L0 ty aec ?z<|ad6 _);$(bg<|dr<|bg<|bg ?D)
 first|$(bg (aay ty<|dr ?B))|$(bg<|abb ty<|dr ?B)
 $(bg<|ac' f g ?G);$(show gj _ _ (if(mA d==ql)=bi then _ else _) _ _ s from ?H);$(bg<|dr<|bg<|acz h j ?I);rw[if_neg ⋯];$(bg<|dr<|bg<|aeu h j ?J);rw[if_neg ⋯];$(dr ?K);simp[acy e];$(bg ?L)
 first|$(bg (aay ty<|dr ?C))|$(bg<|abb ty<|dr ?C)
 $(show gj _ _ (setField (.ref it) 0 .none >>= _) _ _ s from bg<|aaq f g ⋯ ?M);$(bg ?N);$(bg<|rp (bg<|afY (a:=ql) ρ<|rp ?O (by size_fits)) (by size_fits));dsimp[ahV];$(bg<|ah' ?P);rw[show A.in1.handled=am from hh];$(bg<|dr<|wpAny_throw ?R);$(bg<|aeh ⟨_,gi _ ρ,ρ⟩ ahY<|dr<|q _<|((sH ..).extBut.push _).push _)
def MV (hd:(d==NN)=bn)(r:gU s.heap d a ep)(hz:(a.size:Int)<2 ^ 63)(q:∀t t',Q (.int a.size t) {s with toks:=t'}):gj (hM prog w) A (call (.builtin "len") [.ref d]) Q E s:=by let ty:=r.ty;let(o,b,e2,c):=r.ok;$(aaP kind_len plain_len entry_len (args_len1 _) ?z);delta ZI.«len»;$(bg<|dr<|bg<|L1 ty agS<|se agS ty F.entry_dict_len ?B<|F.args_dict_len_1 _);$(show gj _ _ (dictSize d >>= _) _ _ s from ?C);$(bg<|bg<|acz b c<|dr ?D);$(bg<|wpAny_pendingCount_other hd<|wpAny_ret_mkInt ?G);$(bg<|pl<|dr<|bg<|wpAny_letGo ?H);$(?I);$(show gj _ _ (if((a.size:Nat):Int) ≥ 2 ^ 63 then _ else _) _ _ _ from ?J);rw[if_neg (by lia)];$(bg<|wpAny_mkInt<|dr ⟨_,ρ,q _ _⟩)
end
end
def BJ(d:dn)(o:zI)(kvs:List (List Key×V))(bs:List dn):It:=⟨λi H=>H d=al (.bA o<|.dT kvs)/\i<kvs.length,λi H v a=>a=H/\∃b,bs[i]?=al b/\v=.ref b,λi H=>H d=al (.bA o<|.dT kvs)/\kvs.length<=i⟩
def j5(H:Hp)(kvs:List (List Key×V))(bs:List dn):Prop:=aaO (λa b=>H b=al (.U<|a.1.map kV)) kvs bs
def KeysIn(a:Array abk)(bs:List dn):Prop:=∀(i:Nat) (hi:i<a.size),∃b,bs[i]?=al b/\a[i].key=.ref b
section
variable{P:hZ}{w:nL}{H:Hp}{h:nk}{d:dn}{X:Cx}{K:f'}{pos:u1}{H0:Hp×Hp}{Hi:Hp}{ps:Nat->Option dn}{Z:DS}{σ:St}
theorem uc (x:cH P w H h d (.dT kvs)):∃a ep o bs,h.get? d=al o/\o.ExactDict/\o.data=.dict a ep/\a.size=kvs.length/\j5 H kvs bs/\KeysIn a bs:=by
 let(_,_,xs,b,o,a,ep,g,j,k,c,h5):=x;let l:a.size=xs.length:=by$$$$(congrArg List.length c)
 let m:∀{kvs:List (List Key×V)}{xs:List (List Key×dn×cm)},aaO (λ(p:List Key×V) (q:List Key×dn×cm)=>p.1=q.1/\H q.2.1=al (.U<|p.1.map kV)/\RelV p.2 q.2.2) kvs xs->j5 H kvs (xs.map λx=>x.2.1):=λb=>by
  induction b with
  |nil=>$(.nil)
  |cons h _ n=>$(.cons h.2.1 n)
 $({a,ep,o,xs.map λx=>x.2.1,g,j,k,by simp?[l,xy b],m b,λi r=>?_});let e:xs[i]?=al xs[i]:=bt ⋯;let f:a.toList[i]?=al a[i]:=by simp[r]
 simp?[c,dk,e]at f;$({xs[i].2.1,by rw[dk,e];rfl,?_});rw[<-Option.some.inj f];rfl
def KU (G:j.size=n)(hne:d≠it)(l:o.data=.dict j ep)(a:KeysIn j bs) :
  Turn P w K O (BJ d o kvs bs) [it] it (λi h=>h.IsKeyIter it d i n ep) where
 mem:=⋯
 obj:=λi h st b a=>by
  let e:b=it:=by$$$$a
  $$e;let(o,e,c,d):=st;$({o,e,λv z=>by rw[d]at z;lk})
 keep:=λi h h' st k=>by let(o,e,c,d):=st;$({o,k it ⋯ o e,c,d})
 item:=by
  ext X r hw t J i f s σ H E I m st u;subst r hw t G;let(x,y,Q,A,B,C):=m it ⋯;let(hd,R):=u;let(ho,ok):=I.ao d _ hd;let(es',L,M,N,g,D,g3,S,_,_):=uc ok;rw[ho]at g;$$$g;rw[l]at g3;$$$g3;let p:i<j.size:=∅
  $(HA st ⟨o,ho,D,l⟩ p λh' q T=>?_);let U:Inv X f σ H {s with heap:=h',toks:=s.toks}:=I.turned (λb o a e=>(T.2 b a).trans e) x y A B C;let(b,Y,F):=a i p;let(M,e,c,dd):=id q;$({_,ρ,rl e c dd ρ {.ref b,H,U,by rw[F];rfl,⟨ρ,b,Y,ρ⟩,q,λb a=>(m b a).1}})
 done:=by ext X r hw t J i f s σ H E I m st u;subst r hw t G;let(x,y,Q,A,B,C):=m it ⋯;let(hd,R):=u;let(ho,ok):=I.ao d _ hd;let(es',L,M,N,g,D,g3,S,_,_):=uc ok;rw[ho]at g;$$$g;rw[l]at g3;$$$g3;$(GA (I.ok.hd J) st ⟨o,ho,D,l⟩ (by lia) λh' F=>{ρ,I.turned (λb o a e=>F b o a e) x y A B C})
 self:=λ_ _ _ _ _ st h=>ac9 st h
def Inv.RD (I:Inv X a σ H s)(e:H d=al (.dT kvs))(ho:s.heap.get? d=al o):Inv X a σ (upd H d<|.bA o<|.dT kvs) s:=by
  let f:∀b u,H b=al u->u≠.dT kvs->b≠d:=by lia
  let un:Un X.fs [] H (upd H d<|.bA o<|.dT kvs) s.heap s.heap :=
    ⟨λb ob q _ _ _=>q,λb ob q _ _ _=>⟨ob.slots,q⟩,λb ob q n _=>by rw[aA (λz=>by simp!)];$n,λb ob q _=>⟨ob,q⟩,
     λb xs q=>by rw[aA (f b _ q ⋯)];$q,λb ob u q=>by rw[aA (f b _ q ⋯)];$q,λb ps q=>{#[],by rw[aA (f b _ q ⋯),q];simp}⟩
  let st:∀b u,cH X.prog X.w H s.heap b u->cH X.prog X.w (upd H d<|.bA o<|.dT kvs) s.heap b u:=λb u x =>
    x.gH (λc v _ q=>q) (λc q=>by rw[aA (f c _ q ⋯)];$q) λc xs q=>by rw[aA (f c _ q ⋯)];$q
  let ao:cg X.prog X.w (upd H d<|.bA o<|.dT kvs) s.heap:=λb u q=>by
    ext(g:b=d)
    · $$g;rw[a9]at q;$$$$$$q;$({ho,st _ _<|I.ao _ _ e})
    rw[aA g]at q;$(st _ _<|I.ao b u q)
  $(I.un un ao)
def TU(te:TE):TI:=λσ H R=>te σ H λv a=>∃d kvs,v=.ref d/\a d=al (.dT kvs)/\∀o bs,j5 a kvs bs->R (BJ d o kvs bs) (upd a d<|.bA o<|.dT kvs)
def Il (k:PE X e te):PI X j e (TU te):=by$(λc s σ H R I h=>aI (k c s σ H _ I h) λv a f=>?_);let(y,H1,g,l,m):=f;let(d,kvs,rfl,hd,q):=m;$$l;let ok:=g.ao d _ hd;let(es,ep,o,bs,ho,n,g3,g4,p,r):=uc ok;let i:=fj ho;let f:=g.RD hd ho;$(GZ ok.2.1 ⟨o,ho,n,g3⟩ {a.heap.objs.size,[a.heap.objs.size],_,_,_,ρ,f.kept λb o e=>eu _ e,KU ρ (gD i) g3 r,{_,gi _ ρ,ρ,ρ},λb t=>?_,q o bs p});simp[show b=a.heap.objs.size by$$$$t];$(f.lj (eT _)<|f.ao.fresh<|eT _)
abbrev gV:=List<|List eS×Dat
def gg(a:gV)(k:List eS):Option Dat:=(a.find? λp=>bd<|p.1=k).map (·.2)
def tZ(a:gV)(k:List eS)(d:Dat):gV:=if(gg a k).isSome=bi then a.map (λp=>if p.1=k then(p.1,d)else p)else a++[(k,d)]
def kT(k:List eS):List Key:=k.map uy
theorem An:kT a=kT b↔a=b:=by
 delta kT;constructor
 .ext h;induction a generalizing b with
  |nil=>simp!
  | cons x a c=>cases b with
   |nil=>lk
   |cons y b=>let(e,f):=List.cons.inj h;rw[Sum.inr.inj e,c f]
 ext h;rw[h]
def tO(k):(kT k).map kV=k.map V.str:=by delta kT;rw[eX];rfl
theorem cc.length:∀{a:gV}{kvs:List (List Key×V)},cc K H a kvs->kvs.length=a.length
 |[],_,h=>by rw[show _=[]from h];rfl
 |(_,_)::_,_,b=>by let(v,r,e,q,t):=b;simp?[e,g8,g8,cc.length t]
theorem cc.find:∀{c:gV}{kvs:List (List Key×V)}(k:List eS),cc K H c kvs->(∀d,gg c k=al d->∃v,fZ kvs (kT k)=al v/\Rep K H d v)/\(gg c k=am->fZ kvs (kT k)=am)
 |[],_,k,h=>by rw[show _=[]from h];$({λd z=>by simp[gg]at z,λ_=>rfl})
 | (f,d')::c,_,k,j=>by
  let(v,r,e,q,t):=j;rw[show _=(kT f,v)::r from e];let(a,b):=cc.find k t;ext(g:f=k)
  .$$g;let i:gg ((f,d')::c) f=al d':=by simp[gg]
   rw[i,sd ρ];$({λd z=>{v,ρ,by$$$$$$z;$q},λz=>by lk})
  let i:gg ((f,d')::c) k=gg c k:=by simp[gg,g]
  rw[i,ug<|λz=>g<|An.1 z];$(⟨a,b⟩)
theorem cc.has (k:List eS)(h:cc K H c kvs):(fZ kvs<|kT k).isSome=(gg c k).isSome:=by
 let(a,b):=h.find k;cases e:gg c k with
 |none=>rw[b e];rfl
 |some d=>let(v,f,_):=a d e;rw[f];rfl
theorem cc.jy:∀{a:gV}{kvs:List (List Key×V)}(k:List eS) {d:Dat}{v:V},cc K H a kvs->Rep K H d v->cc K H (a.map λp=>if p.1=k then(p.1,d)else p) (kvs.map λp=>if p.1=kT k then(p.1,v)else p)
 |[],_,k,_,_,h,_=>by simp?[show _=[]from h];$ρ
 | (b,d')::a,_,k,d,v,g,c=>by
  let(w,r,e,q,t):=g;rw[show _=(kT b,w)::r from e,hH,hH];ext(f:b=k)
  .$$f;rw[if_pos ρ,if_pos ρ];$({v,_,ρ,c,cc.jy b t c})
  rw[if_neg f,if_neg<|λz=>f<|An.1 z];$({w,_,ρ,q,cc.jy k t c})
theorem cc.snoc:∀{b:gV}{kvs:List (List Key×V)}(k:List eS) {d:Dat}{v:V},cc K H b kvs->Rep K H d v->cc K H (b++[(k,d)]) (kvs++[(kT k,v)])
 |[],_,k,_,v,h,a=>by rw[show _=[]from h];$({v,[],ρ,a,ρ})
 |(_,_)::_,_,k,_,_,c,a=>by let(w,r,e,q,t):=c;$({w,r++_,by rw[e];rfl,q,cc.snoc k t a})
def cc.put{a:gV}{kvs:List (List Key×V)}(k:List eS){d:Dat}{v:V}(h:cc K H a kvs)(b:Rep K H d v):cc K H (tZ a k d) (putK kvs (kT k) v):=by
 delta tZ putK;rw[vO,h.has k];split
 .$(h.jy k b)
 $(h.snoc k b)
theorem uG:∀{a:gV}{kvs:List (List Key×V)},cc K H a kvs->kvs.map (·.1)=a.map λk=>kT k.1
 |[],_,h=>by rw[show _=[]from h];rfl
 |(_,_)::_,_,b=>by let(v,r,e,q,t):=b;simp?[e,hH,hH,uG t];rfl
abbrev UF:=DS->Option (List eS×DS)
def mJ(X:Cx)(e:hF)(f:UF):Prop:=∃t,PE X e t/\∀(H0:Hp×Hp) (ps:Nat->Option dn) (Z:DS) (σ:St) (H Hi:Hp) (l:List eS) (b:DS) (Q:VK),f Z=al (l,b)->SR X.K H0 ps Z σ H Hi ->
 (∀p c a,SR X.K H0 ps b σ c a->aj Hi a->a p=al (.U<|(kT l).map kV)->Q (.ref p) c)->t σ H Q
def AY(f:AF):UF:=λZ=>(f Z).bind λp=>if p.1.length<=c6 then(dS p.1).map λl=>(l,p.2)else am
def A1(f:AF):UF:=λZ=>(f Z).bind λp=>match p.1 with
 |[.L ds]=>(dS ds).map λl=>(l,p.2)
 |_=>am
def LY {c}(h:DA X a f):mJ X (.Tuple a c pos) (AY f):=by
 let(t,p,q):=h;$({_,pd p,λH0 ps Z σ H Hi l Z' Q e S k=>?_});let(ds,Z1,g,e):=oB e;$$$$$e
 .ext1 hz;let(l',i,e):=oM e;let(rfl,rfl):=sP e;$(q H0 ps Z σ H Hi ds _ _ g S λvs H1 Hi1 j m b=>{by rw[b.length];$hz,λp n=>?_});let(r,s):=j.laid n;apply k p _ _ r<|m.trans s;rw[a9,kL i b,tO]
 exact nO e
def SY (g:Gl X "tuple")(hm:X.mg "tuple"=am)(i:bD X e [])(j:DA X [e] fa):mJ X (.Call (.Name "tuple" p) [e] [] pos) (A1 fa):=by
 let(t,m,q):=j;$({_,wH Jy g hm (by decide +kernel) m ⋯ ρ i ρ,λH0 ps Z σ H Hi l Z' Q b S k=>?_});let(ds,Z1,n,b):=oB b;dsimp at b;$$$$$b
 .let(l',r,b):=oM b;let(rfl,rfl):=sP b;$(q H0 ps Z σ H Hi _ _ _ n S λvs H1 Hi1 c s u=>?_);let(v,vr,rfl,(a,f,rfl,x,rs),y):=u;$$y;$({a,f,ρ,ι {ι<|Rd.mono c.sub x,λp z=>?_}});let(A,B):=c.laid z;apply k p _ _ A<|s.trans B;rw[a9,kL r rs,tO]
 exact nO b
def HC:EF:=λZ=>al (.O<|.bh false [],Z)
def ud(i:Nat)(b:UF)(f:DF):SF:=λZ=>(f Z).bind λp=>((p.2[i]?).bind ownOf).bind λ_=>(b p.2).bind λq=>((q.2[i]?).bind ownOf).bind λs=>match s.2 with
 |.bh _ a=>if a.length<c6 then al (.next<|q.2.set i<|kindAt s.1<|.bh false<|tZ a q.1 p.1)else am
 |_=>am
def T6 (i:Nat)(J:X.A.units+1<u2)(L:X.N[i]?=al x)(M:bV X.env.scope x)(h:DD X e f)(O:mJ X g r)(hd:bz x:=by decide)(s:cB x:=by decide)(hs:z8 e (al<|.Subscript (.Name x m) g pt) pos.line X.env=pure false:=by rfl):cw X (.Assign [.Subscript (.Name x m) g pt] e pos) (ud i r f):=by
 let(t,p,q):=h;let(tk,Q,R):=O;$({_,HN J (dU L M hd s) Q p hs,λH0 ps Z σ H Hi o D e S k=>?_});let(d,Z1,T,e):=oB e;let(b0,c0,U,e):=oB e;let(n,Z2,V,e):=oB e;let(io,c,u,e):=oB e;dsimp at e;$$$$$e
 .$$$$$e
  .ext1 hz;$$$$$$e;$(q H0 ps Z σ H Hi d Z1 _ T S λv W B C Y r1=>?_);let(a,j,_):=C.at<|jL U;$({.ref a,j,R H0 ps Z1 σ W B _ Z2 _ V C λy H2 E l F r2=>?_});let(b,G,ob):=l.at<|jL u;rw[j]at G;$$$G;let(z,kvs,h1,I,h3):=ob;$({a,_,ρ,mD.t h1 (l.sub _ _ r2) (by rw[cc.length I];$hz),?_});$(k σ _ E (l.write (jL u) j {ρ,_,a9,cc.put n I<|Rep.mono F r1,h3})<|Y.trans F)
  $(nO e)
 $(nO e)
theorem SR.share(S:SR K H0 ps Z σ H Hi)(e:H b=al (.U vs)):∃f,SR K H0 ps Z σ H f/\aj Hi f/\f b=al (.U vs)/\∀q u,f q=al u->Hi q=al u\/∃vs,u=.U vs:=by
 cases z:Hi b with
 |some u=>let:=S.sub _ _ z;rw[e]at this;$$$$$$this;$({Hi,S,aj.refl _,z,λ_ _ h=>ι h})
 |none =>
  let sm:aj Hi (upd Hi b<|.U vs):=jr z;let ne:∀{q:dn}{c:Dat},cW K H Hi q c->q≠b:=λh y=>by$$y;$(h.nt e)
  $({_,{Je S.sub e,S.keep,S.gq,λi d h=>?_,λi c h=>?_,λi c h=>?_,S.ne,S.len,λq u h=>?_},sm,a9,λq u h=>?_})
  .let(v,a,r):=S.D i d h;$({v,a,Rep.mono sm r})
  .let(q,a,o,j,k):=S.O i c h;$({q,a,o.keeps ρ sm (by rw[aA (ne o)];$(o.some.2)),j,k})
  .let(q,a,o,j):=S.io i c h;$({q,a,o.keeps ρ sm (by rw[aA (ne o)];$(o.some.2)),j})
  .ext(g:q=b)
   .$$g;rw[a9]at h;$$$h;$(τ<|τ ⟨vs,ρ⟩)
   rw[aA g]at h;$(S.nw q u h)
  ext(g:q=b)
  .$$g;rw[a9]at h;$$$$$$h;$(τ ⟨vs,ρ⟩)
  rw[aA g]at h;$(ι h)
theorem SR.BX (k:j5 H kvs bs):∀{Hi:Hp},SR K H0 ps Z σ H Hi->∃a,SR K H0 ps Z σ H a/\aj Hi a/\j5 a kvs bs/\∀q u,a q=al u->Hi q=al u\/∃vs,u=.U vs:=by
 induction k with
 |nil=>$(λS=>{_,S,aj.refl _,.nil,λ_ _ h=>ι h})
 |cons h _ c=>ext Hi S;let(H1,f,g,i,j):=S.share h;let(l,m,b,k2,n):=c f;$({l,m,g.trans b,.cons (b _ _ i) k2,λq u e=>(n q u e).elim (j q u) τ})
def SR.hold (S:SR K H0 ps Z σ H Hi)(e:Z[i]?=al (.O c))(m:σ[i]?=al (al<|.ref p))(r:Rep K (upd Hi p o) d' (.ref p)):SR K H0 ps (Z.set i<|.D d') σ (upd H p o) (upd Hi p o)/\aj Hi (upd Hi p o):=by
 let(p',l,B,nl,C):=S.O i _ e;rw[m]at l;$$$l;let t:=(cn.1 e).1;let sm:aj Hi (upd Hi p o):=jr B.some.2;let back:∀{j:Nat}{s:Slot},(Z.set i<|.D d')[j]?=al s->(∀d,s≠.D d)->j≠i/\Z[j]?=al s:=λ{j s} h D=>by
  ext(f:j=i)
  .$$f;rw[qz t]at h;$$$$$$h;cases D _ ρ
  rw[mu (Ne.symm f)]at h;$(⟨f,h⟩)
 $({{BO S.sub,λb u E F=>?_,λq x=>?_,λj d h=>?_,λj c h=>?_,λj c h=>?_,λj k c G q I J=>?_,by rw[LK];$S.len,λq u eq=>?_},sm})
 .rw[aA (λz=>by simp!)];$(S.keep b u E F)
 .let y:q≠p:=λz=>nl (z ▸ x);rw[aA y];$(S.gq q x)
 .ext(f:j=i);simp!;rw[mu (Ne.symm f)]at h;let(v,a,b):=S.D j d h;$({v,a,b.mono sm})
 .let(f,h):=back h (by ext d z;lk);let(q,a,b,n,L):=S.O j c h;let g:q≠p:=λz=>f<|S.ne j i _ _ p (ι h) (ι e) (z ▸ a) m;$({q,a,b.keeps (aA g) sm (by rw[aA g];$(b.some.2)),n,L})
 .let(f,h):=back h (by ext d z;lk);let(q,a,b,n):=S.io j c h;let g:q≠p:=λz=>f<|S.ne j i _ _ p (τ h) (ι e) (z ▸ a) m;$({q,a,b.keeps (aA g) sm (by rw[aA g];$(b.some.2)),n})
 .let M:=I.imp (λz=>(back z ⋯).2) λz=>(back z ⋯).2;let N:=J.imp (λz=>(back z ⋯).2) λz=>(back z ⋯).2;$(S.ne j k c G q M N)
 ext(A:q=p)
 .$$A;$(τ<|ι C)
 rw[aA A]at eq;$(S.nw q u eq)
def SR.held (S:SR K H0 ps Z σ H Hi)(n:cW K H Hi p c)(nl:¬iH ps p)(r:H0.1 p=am)(nd:∀(i:Nat) (g:Dat),(Z[i]?=al (.O g)\/Z[i]?=al (.io g))->σ[i]?≠al (al<|.ref p)):SR K H0 ps Z σ (upd H p o) (upd Hi p o)/\aj Hi (upd Hi p o):=by
 let sm:aj Hi (upd Hi p o):=jr n.some.2;$({{BO S.sub,λb u s t=>?_,λq k=>?_,λj d h=>?_,λj c h=>?_,λj c h=>?_,S.ne,S.len,λq u eq=>?_},sm})
 .rw[aA (λz=>by simp!)];$(S.keep b u s t)
 .let l:q≠p:=λz=>nl (z ▸ k);rw[aA l];$(S.gq q k)
 .let(v,a,b):=S.D j d h;$({v,a,b.mono sm})
 .let(q,a,b,f,x):=S.O j c h;let e:q≠p:=λz=>nd j c (ι h) (z ▸ a);$({q,a,b.keeps (aA e) sm (by rw[aA e];$(b.some.2)),f,x})
 .let(q,a,b,f):=S.io j c h;let e:q≠p:=λz=>nd j c (τ h) (z ▸ a);$({q,a,b.keeps (aA e) sm (by rw[aA e];$(b.some.2)),f})
 ext(m:q=p)
 .$$m;$(τ<|ι r)
 rw[aA m]at eq;$(S.nw q u eq)
def kJ(a:gV):List Dat:=a.map λk=>.U<|k.1.map .str
theorem Ft:∀l:List eS,aB K H (l.map .str) (l.map V.str)
 |[]=>rfl
 |x::l=>{_,_,ρ,ρ,Ft l}
def Kk (f:Hi p=al (.bA o<|.dT kvs))(g:cc K Hi a kvs)(kb:j5 Hi kvs bs):JW K (BJ p o kvs bs) (kJ a) Hi:=by
 ext j H2 i;let hl:=cc.length g;let lk:(kJ a).length=a.length:=by$$(kJ);rw[a8]
 $({λd c=>{{i _ _ f,?_},λv H3 n=>ι ?_},λh=>{i _ _ f,?_}})
 .let:=(cn.1 c).1;$_
 .let(rfl,b,q,rfl):=n;$({ρ,?_});let k:j<a.length:=by let:=(cn.1 c).1;$_
  let l:kvs[j]?=al kvs[j]:=bt ∅;let m:=G1 kb j _ _ l q;let e:(kvs.map (·.1))[j]?=al kvs[j].1:=by rw[dk,l];rfl
  simp?[uG g,dk,bt k]at e;let e:=Option.some.inj e;unfold kJ at c;simp?[dk,bt k]at c;$$$$$$c;rw[<-e,tO]at m;$({b,_,ρ,bf.of m,Ft _})
 $_
def Bh(i:Nat):IF:=λZ=>match Z[i]? with
 |some (.O<|.bh _ a)=>al (kJ a,Z.set i<|.D<|.bh true a)
 |_=>am
def vV(f:EF):IF:=λZ=>(f Z).bind λp=>match p.1 with
 |.O (.bh _ a)=>al (kJ a,p.2)
 |_=>am
def nY(neg:Bool)(i:Nat)(b:UF):EF:=λZ=>(b Z).bind λq=>((q.2[i]?).bind iE).bind λc=>match c with
 |.bh _ a=>al (.D<|.bl (if neg then !(gg a q.1).isSome else(gg a q.1).isSome),q.2)
 |_=>am
theorem Du (t:Top K H Hi v (.bh a b)):∃p kvs,v=.ref p/\Rd H p (.dT kvs)/\cc K Hi b kvs:=by
 let(p,o,kvs,e,c,f):=t;$({p,kvs,e,?_,f});cases a with
 |false=>$(ι c)
 |true=>$(τ ⟨o,c⟩)
def yD (q:∀(H0:Hp×Hp) (ps:Nat->Option dn) (Z:DS) (σ:St) (H Hi:Hp) (l:List eS) (f:DS) (Q:VK),m Z=al (l,f)->SR X.K H0 ps Z σ H Hi->(∀p g a,SR X.K H0 ps f σ g a->aj Hi a->a p=al (.U<|(kT l).map kV)->Q (.ref p) g)->tk σ H Q)(H0)(ps)(Z)(σ)(H Hi)(o)(f)(Q)(e:nY neg i m Z=al (o,f))(S:SR X.K H0 ps Z σ H Hi)(k:∀v g a,SR X.K H0 ps f σ g a->aj Hi a->RR X.K H0 ps f σ g a v o->Q v g):qB (rA neg) tk (uh i) σ H Q:=by
 let(l,Z1,r,e):=oB e;dsimp at e;let(c,s,e):=oA e;$$$$$e
 .let(rfl,rfl):=sP e;$(q H0 ps Z σ H Hi _ _ _ r S λb u n j x y=>?_);let(v,z,t):=j.peek s;let(p,kvs,rfl,A,B):=Du t;$({_,z,p,_,ρ,τ {kvs,kT l,b,A,ρ,j.sub _ _ y,ρ},?_});rw[B.has l];$(k _ u n j x ρ)
 $(nO e)
def TC (f:X.A.units+1<u2)(g:X.N.findIdx? (·==x)=al i)(j:bV X.env.scope x)(hd:bz x)(e:cB x)(hm:xn .In (.Name x b)=bn)(k:mJ X a c):DE X (.Compare a [.In] [.Name x b] pos) (nY false i c):=by let(t,p,q):=k;$({_,Ey (CF f) p (dU (dI g) j hd e) hm,yD q})
def AE (q:∀(H0:Hp×Hp) (ps:Nat->Option dn) (Z:DS) (σ:St) (H Hi:Hp) (o:Res) (e:DS) (Q:VK),f Z=al (o,e)->SR X.K H0 ps Z σ H Hi->(∀v g a,SR X.K H0 ps e σ g a->aj Hi a->RR X.K H0 ps e σ g a v o->Q v g)->t σ H Q)(H0)(ps)(Z)(σ)(H Hi)(c)(e)(Q)(b:fT f Z=al (c,e))(S:SR X.K H0 ps Z σ H Hi)(k:∀g a,SR X.K H0 ps e σ g a->aj Hi a->Q c g):Bf t σ H Q:=by
 let(r,Z1,j,b):=oB b;dsimp at b;$$$$$b
 .let(rfl,rfl):=sP b;$(q H0 ps Z σ H Hi _ _ _ j S λv l i m n p=>?_);$({_,p,k l i m n})
 $(nO b)
def SS (f:X.A.units+1<u2)(g:X.N.findIdx? (·==x)=al i)(j:bV X.env.scope x)(hd:bz x)(e:cB x)(hm:xn .In (.Name x b)=bn)(k:mJ X a c):DT X (.Compare a [.In] [.Name x b] pos) (fT<|nY false i c):=by let(t,p,q):=k;$({_,pf (CF f) p (dU (dI g) j hd e) hm,AE<|yD q})
def MR (f:X.A.units+1<u2)(g:X.N.findIdx? (·==x)=al i)(j:bV X.env.scope x)(hd:bz x)(e:cB x)(hm:xn .NotIn (.Name x b)=bn)(k:mJ X a c):DT X (.Compare a [.NotIn] [.Name x b] pos) (fT<|nY true i c):=by let(t,p,q):=k;$({_,pf (GR f) p (dU (dI g) j hd e) hm,AE<|yD q})
def BI:List Dat->Option Res
 |[.bh _ a]=>al (.D<|.int (a.length:Int))
 |ds=>zp ds
def QP:CD X (λxs H Q=>AG X.K xs H Q\/(λxs H Q=>∃a kvs,xs=[V.ref a]/\Rd H a (.dT kvs)/\Q (.int kvs.length) H) xs H Q) BI:=by
 ext H0 ps Z σ H Hi vs ds o Q e S r k;delta BI at e;$$$$$e
 .obtain rfl:=sO e;let(v,vr,rfl,b,c):=r;$$c;let(p,kvs,rfl,f,g):=Du<|b.top S.sub;$(τ {p,kvs,ρ,f,?_});apply k _ H Hi S<|aj.refl _;show V.int _=V.int _;rw[cc.length g]
 exact ι<|UZ H0 ps Z σ H Hi vs ds o Q e S r k
def Vg (a:Gl X "len")(hm:X.mg "len"=am)(b:bD X e [])(c:DA X [e] fa):DE X (.Call (.Name "len" p) [e] [] pos) (bT BI fa):=iu (bN.or Ff (by
  ext pins s σ H xs us Q I r h;let(a,kvs,rfl,c,q):=h;let(u,rfl,e):=vals1 r;$$e;let ok:=vb I.ao c;let z:=ok.1;let(es,ep,o,bs,ho,f,g3,b,g5,g6):=uc ok;$(MV ok.2.1 ⟨o,ho,f,g3⟩ (by rw[b];simp?[wm]at z;lia) λt t'=>?_)
  rw[b];$({.int kvs.length,H,I.tok _,⟨t,ρ⟩,q}))) QP a hm ad1 c ⋯ ρ b ρ
def Qr (j:X.N.findIdx? (·==x)=al i)(k:bV X.env.scope x)(l:X.A.units+1<u2)(hd:bz x)(g:cB x)(hs:z8 e (al<|.Subscript (.Name x b) a pt) pos.line X.env=pure false)(h:DD X e f)(m:mJ X a c):cw X (.Assign [.Subscript (.Name x b) a pt] e pos) (ud i c f):=T6 i l (dI j) k h m hd g hs
structure lT (x:eS):Prop where
 ok:True
def QG (ht:lT x)(b:X.N.Nodup)(c:X.N.findIdx? (·==x)=al i)(e:Loc X.env.scope x)(f:X.fn x=bi\/X.env.scope.names.lookup x=some .local)(hs:z8 (.Dict [] [] p) (al<|.Name x a) pos.line X.env=pure false):cw X (.Assign [.Name x a] (.Dict [] [] p) pos) (jx i HC):=Ay b c e f hs (by
  $({_,Vu,λH0 ps Z σ H Hi r Z' Q a S k=>?_})
  let(rfl,rfl):=sP a;$(λl hl=>k (.ref l) _ Hi (S.made hl) (aj.refl _) {l,ρ,{ρ,_,a9,ρ,S.dv hl},(S.bJ hl).2,(S.bJ hl).1,S.dM hl}))
end
def JA(a b:dn):It:=⟨λi H=>∃xs ys x y,Rd H a (.L xs)/\Rd H b (.L ys)/\xs[i]?=al x/\ys[i]?=al y,λi H v c=>∃p x y,H p=am/\v=.ref p/\c=upd H p (.U [x,y])/\(∀xs,Rd H a (.L xs)->xs[i]?=al x)/\∀ys,Rd H b (.L ys)->ys[i]?=al y,λi H=>∃xs ys,Rd H a (.L xs)/\Rd H b (.L ys)/\(xs.length<=i\/ys.length<=i)⟩
def S8{P:hZ}{w:nL}{K:f'}{elts:List hF}{x1:Nat}{Y:u1}{a b z TI TO g j:dn}(D:ZipApart z TI TO g j a b) :
  Turn P w K (.Tuple elts x1 Y) (JA a b) [z,TI,TO,g,j] z (λi h=>IsZip h z TI TO .none/\IsPair h TI (.ref g) (.ref j)/\(∃u v,IsPair h TO u v)/\h.IsListIter g a i/\h.IsListIter j b i) where
 mem:=⋯
 obj:=λi h st c l=>by
  let(hz,C,(u,v,G),(o1,Z,c1,d1),(o2,e2,c2,d2)):=st;simp at l;let rfl||rfl||rfl||rfl||rfl:=l
  .$({_,hz,λv z=>by lk})
  .$({_,C,λv z=>by lk})
  .$({_,G,λv z=>by lk})
  .$({o1,Z,λv z=>by rw[d1]at z;lk})
  $({o2,e2,λv z=>by rw[d2]at z;lk})
 keep:=λi h h' st k=>{k z ⋯ _ st.1,k TI ⋯ _ st.2.1,st.2.2.1.imp λu e=>e.imp λv q=>k TO ⋯ _ q,st.2.2.2.1.at λo q=>k g ⋯ o q,st.2.2.2.2.at λo q=>k j ⋯ o q}
 item:=by
  ext X hP hw hK d i J s σ H E I F st hg;let(hz,C,(u0,v0,G),S,T):=st;let(xs,ys,x,y,U,M,hx,hy):=hg;let(_,its,n,rv,ea):=U.ok I.ao;let(_,its',n',N,O):=M.ok I.ao;let(u,hu,ru):=rv.get hx;let(V,YL,YM):=N.get hy;let p:=F z ⋯;let t:=F TO ⋯;let A:=F g ⋯;let B:=F j ⋯;let lt:∀{c:dn}{o:zI},s.heap.get? c=al o->c≠s.heap.objs.size:=λe=>gD<|fj e;$(wpAny_pyNext_zip_item D hz C G S T {_,ea,ρ,n,ρ} {_,O,ρ,n',ρ} (by$$$$hu) (by$$$$YL) λh3 g1 g2 g3 g4 g5 g6 g7=>?_);$({_,ρ,wpAny_letOwnedTupleGo_zip g1 λQ f1 L=>?_});let L:L' z h3 Q:=L;let fr:=I.ao.fresh<|eT _;let cp:∀c o,c≠z->c≠TO->c≠g->c≠j->s.heap.get? c=al o->Q.get? c=al o:=λc o k1 k2 k3 k4 q=>(L.2 c k1).trans (g7 c o k1 k2 k3 k4 q);let ht:=(L.2 _<|Ne.symm<|lt hz).trans g5;let f:∀{c:dn},c∉[z,TO,g,j]->c≠z/\c≠TO/\c≠g/\c≠j:=λ{c} h=>{λe=>h (by simp[e]),λe=>h (by simp[e]),λe=>h (by simp[e]),λe=>h (by simp[e])};let fx:∀c w,H c=al w->c≠z/\c≠TO/\c≠g/\c≠j:=λc w q=>{dE q p.1,dE q t.1,dE q A.1,dE q B.1};let R:∀c w,H c=al w->c≠s.heap.objs.size:=λc w q=>dE q fr;$({.ref s.heap.objs.size,upd H s.heap.objs.size<|.U [x,y],?_,ρ,⟨_,x,y,fr,ρ,ρ,λzs hz=>by rw[hz.zK U];$hx,λzs hz=>by rw[hz.zK M];$hy⟩,⟨f1,?_,⟨u,V,(L.2 _ D.TOz).trans g2⟩,?_,?_⟩,λc l=>?_})
  .show Inv X J σ (upd H s.heap.objs.size<|.U [x,y]) {s with heap:=Q,gens:=s.gens,drawn:=s.drawn,toks:=s.toks};$(Inv.step I (λb l=>?_) (λb o _ _ d q _=>cp b o (f d).1 (f d).2.1 (f d).2.2.1 (f d).2.2.2 q) (λb o _ _ d q _=>{o.slots,cp b o (f d).1 (f d).2.1 (f d).2.2.1 (f d).2.2.2 q})
    (λb o d q n=>by rw[aA (gD<|fj q)];$n) (λb o d q=>{o,cp b o (f d).1 (f d).2.1 (f d).2.2.1 (f d).2.2.2 q}) (λb ys q=>by rw[aA (R b _ q)];$q) (λb ob w q=>by rw[aA (R b _ q)];$q)
    (λb ps q=>{#[],by rw[aA (R b _ q),q];simp}) (λm hm=>?_) (λb w q=>?_) I.bare)
   .simp at l;let rfl||rfl||rfl||rfl:=l
    .$(⟨p.2.2.2.1,p.2.1,p.2.2.2.2.1,p.2.2.2.2.2⟩)
    .$(⟨t.2.2.2.1,t.2.1,t.2.2.2.2.1,t.2.2.2.2.2⟩)
    .$(⟨A.2.2.2.1,A.2.1,A.2.2.2.2.1,A.2.2.2.2.2⟩)
    $(⟨B.2.2.2.1,B.2.1,B.2.2.2.2.1,B.2.2.2.2.2⟩)
   .let(o,es,ep,ho,r):=hm;$({o,es,ep,cp _ o (Ne.symm p.2.1) (Ne.symm t.2.1) (Ne.symm A.2.1) (Ne.symm B.2.1) ho,r})
   ext(l:b=s.heap.objs.size)
   .$$l;rw[a9]at q;$$$$$$q;$({by show 2<=c6;$$(c6);decide,[u,V],.cons ru<|.cons YM .nil,_,ht,rfl,_,rfl})
   rw[aA l]at q;$((I.ao b w q).gH (λc v d r=>?_) (λc r=>by rw[aA (R c _ r)];$r) λc ys r=>by rw[aA (R c _ r)];$r)
   let rfl||d:=d
   .$(cp c v (fx _ _ q).1 (fx _ _ q).2.1 (fx _ _ q).2.2.1 (fx _ _ q).2.2.2 r)
   $(cp c v (fx _ _ d).1 (fx _ _ d).2.1 (fx _ _ d).2.2.1 (fx _ _ d).2.2.2 r)
  .$(cp TI _ D.TIz D.TITO D.TIi1 D.TIi2 C)
  .$(g3.at λo q=>(L.2 _ D.i1z).trans q)
  .$(g4.at λo q=>(L.2 _ D.i2z).trans q)
  let YO:c≠s.heap.objs.size:=by
   let(o1,Z,_):=S;let(o2,e2,_):=T;simp at l;let rfl||rfl||rfl||rfl||rfl:=l
   .$(lt hz)
   .$(lt C)
   .$(lt G)
   .$(lt Z)
   $(lt e2)
  rw[aA YO];$((F c l).1)
 done:=by
  ext X hP hw hK d i J s σ H E I F st hg;let(hz,C,(u0,v0,G),S,T):=st;let(xs,ys,U,M,hl):=hg;let(_,its,n,rv,ea):=U.ok I.ao;let(_,its',n',N,O):=M.ok I.ao;let l1:=rv.length;let l2:=N.length;$(wpAny_pyNext_zip_end (I.ok.hd d) D hz C G S T {_,ea,ρ,n,ρ} {_,O,ρ,n',ρ} (hl.imp (λz=>by simp;lia) λz=>by simp;lia) λh' k=>?_);let p:=F z ⋯;let t:=F TO ⋯;let A:=F g ⋯;let B:=F j ⋯;let cp:∀c o,c≠z/\c≠TO/\c≠g/\c≠j->s.heap.get? c=al o->h'.get? c=al o:=λc o q e=>k c o q.1 q.2.1 q.2.2.1 q.2.2.2 e;let f:∀{c:dn},c∉[z,TO,g,j]->c≠z/\c≠TO/\c≠g/\c≠j:=λ{c} h=>{λe=>h (by simp[e]),λe=>h (by simp[e]),λe=>h (by simp[e]),λe=>h (by simp[e])};let fx:∀c w,H c=al w->c≠z/\c≠TO/\c≠g/\c≠j:=λc w q=>{dE q p.1,dE q t.1,dE q A.1,dE q B.1};$({ρ,?_});show Inv X J σ H {s with heap:=h',gens:=s.gens,drawn:=s.drawn,toks:=s.toks};$(Inv.step I (λb l=>?_) (λb o _ _ d q _=>cp b o (f d) q) (λb o _ _ d q _=>{o.slots,cp b o (f d) q})
   (λ_ _ _ _ n=>n) (λb o d q=>{o,cp b o (f d) q}) (λ_ _ q=>q) (λ_ _ _ q=>q) (λb ps q=>{#[],by rw[q];simp}) (λm hm=>?_) (λb w q=>?_) I.bare)
  .simp at l;let rfl||rfl||rfl||rfl:=l
   .$(⟨p.2.2.2.1,p.2.1,p.2.2.2.2.1,p.2.2.2.2.2⟩)
   .$(⟨t.2.2.2.1,t.2.1,t.2.2.2.2.1,t.2.2.2.2.2⟩)
   .$(⟨A.2.2.2.1,A.2.1,A.2.2.2.2.1,A.2.2.2.2.2⟩)
   $(⟨B.2.2.2.1,B.2.1,B.2.2.2.2.1,B.2.2.2.2.2⟩)
  .let(o,es,ep,ho,r):=hm;$({o,es,ep,cp _ o {Ne.symm p.2.1,Ne.symm t.2.1,Ne.symm A.2.1,Ne.symm B.2.1} ho,r})
  $((I.ao b w q).gH (λc v d r=>?_) (λc r=>r) λc ys r=>r);let rfl||d:=d
  .$(cp c v (fx _ _ q) r)
  $(cp c v (fx _ _ d) r)
 self:=λ_ _ _ _ _ st h=>agX st.1 h
section
variable{X:Cx}
def Tz:ZH "zip"=al (.type "zip"):=by decide +kernel
def SJ(d:TA):TI:=λe H R=>d e H λvs c=>∃a b xs ys,vs=[.ref a,.ref b]/\Rd c a (.L xs)/\Rd c b (.L ys)/\R (JA a b) c
def PU (w:Gl X "zip")(hm:X.mg "zip"=am)(x:PA X [a,b] k)(hs:bD X a [b])(l:(T' pos<|km [b] X.env).any (·.1)=bn):PI X (.Tuple elts v i) (.Call (.Name "zip" p) [a,b] [] pos) (SJ k):=by
 $(λj s y H R I h=>Call_<|oC I w hm Tz<|HT (aI (x pos j s y H _ I h) λus d g=>?_) hs l);let(vs,z,f,A,B):=g;let(a,b,xs,ys,rfl,C,m,q):=B;let(u,u',rfl,D,o):=A.two;$$D;$$o;let(_,its,n,rv,e):=C.ok f.ao;let(_,its',E,rv',r):=m.ok f.ao;$(call_zip_2 {_,e,ρ,n,ρ} {_,r,ρ,E,ρ} λh' k1 k2 k3 F k5 k6 G=>agX k1 ?_);$({_,[d.heap.objs.size+4,d.heap.objs.size+2,d.heap.objs.size+3,d.heap.objs.size,d.heap.objs.size+1],_,_,z,ρ,f.kept G,S8<|zipApart_new (fj e)<|fj r,⟨k1,k2,⟨_,_,k3⟩,F,k5⟩,λc t=>?_,q});let g:d.heap.objs.size<=c:=by
  simp at t;let rfl||rfl||rfl||rfl||rfl:=t
  .$(aaW _ _)
  .$(aaW _ _)
  .$(aaW _ _)
  .$(eT _)
  $(aaW _ _)
 $(f.lj g<|f.ao.fresh g)
end
def pQ(as bs:List Dat):List Dat:=(as.zip bs).map λp=>.U [p.1,p.2]
def wJ(fa:AF):IF:=λZ=>(fa Z).bind λp=>match p.1 with
 |[.L as,.L bs]=>al (pQ as bs,p.2)
 |_=>am
section
variable{X:Cx}{pos:u1}{prog:hZ}{w:nL}{A:ow}{E:cm->cA->Prop}{s:cA}
theorem Mx{elts:List hF}{L:Nat}{u p:u1}{a b:hF}{fa:AF}(M:Gl X "zip")(hm:X.mg "zip"=am)(hs:bD X a [b])(C:(T' pos<|km [b] X.env).any (·.1)=bn)(N:DA X [a,b] fa):dC X (.Tuple elts L u) (.Call (.Name "zip" p) [a,b] [] pos) (wJ fa):=by
 let(t,O,q):=N;$({_,PU M hm O hs C,λP Q Z T H U items Z' R c S k=>?_});let(as,Z1,V,c):=oB c;dsimp at c;$$$$$c
 .ext1 as bs;let(rfl,rfl):=sP c;$(q P Q Z T H U _ _ _ V S λvs W D B Y r1=>?_);let(v,vr,rfl,(a',h,rfl,j,rs),v',vr',rfl,(b',e,rfl,f,r),rn):=r1;$$rn;let hl:=rs.length;let hl':=r.length;let lz:(pQ as bs).length=min as.length bs.length:=by simp[pQ]
  refine{a',b',h,e,ρ,Rd.mono B.sub j,Rd.mono B.sub f,k _ W D B Y λi H2 g=>{λd l=>?_,λhle=>{h,e,Rd.mono g j,Rd.mono g f,?_}}}
  .let hi:i<min as.length bs.length:=by rw[<-lz];$((cn.1 l).1)
   let F:i<as.length:=∅
   let G:i<bs.length:=∅
   let I:d=.U [as[i],bs[i]]:=by unfold pQ at l;rw[dk,(ab7 (z:=(as[i],bs[i]))).2 {bt F,bt G}]at l;$((Option.some.inj l).symm)
   subst I;let(x,ex,rx):=rs.get<|bt F;let(y,J,ry):=r.get<|bt G;$({{h,e,x,y,Rd.mono g j,Rd.mono g f,ex,J},λv H3 yl=>τ ?_});let(p,x',y',hp,rfl,rfl,m,o):=yl;let m:=m h<|Rd.mono g j;let o:=o e<|Rd.mono g f;rw[ex]at m;rw[J]at o;$$$$$$m;$$$$$$o;$({p,_,hp,ρ,λHi' K n=>{p,_,ρ,bf.of a9,_,_,ρ,(rx.mono K).mono (jr n),_,_,ρ,(ry.mono K).mono (jr n),ρ}})
  lia
 exact nO c
theorem vw:∀{a:List eS}{us:List cm},aO (a.map V.str) us->acB us a
 |[],_,h=>by$$$h;$(.nil)
 | x::a,_,h=>by
  cases h with
  |cons r t=>let(k,e):=(r);$$e;$(.cons x k<|vw t)
def wq:List V->Hp->VK->Prop:=λxs H Q=>∃p a,xs=[.ref p]/\Rd H p (.L<|a.map V.str)/\a.length<64/\∀l,H l=am->Q (.ref l) (upd H l<|.L<|(aD a).map V.str)
def Hb:bN X (.builtin "sorted") wq:=by
 ext pins s σ H xs us Q I r h;let(p,d,rfl,j,h64,q):=h;let(u,rfl,k):=r.one;$$k;let(z,its,n,f,e):=j.ok I.ao;let b:=vw f;let hl:its.length<64:=by let:=f.length;simp!
 $(sortedK afa {_,e,ρ,n,ρ} b.keysOf (λv₁ v₂ rest e=>afF (by rw[<-e];$b)) hl λg m hs=>?_);let(ss',i,t,v):=zT b m hs;let(c,hD):=sortedAll_at s.heap its ((af' g).map (·.2));rw[ui t v]at i;let hz:((aD d).map V.str).length<=sizeLine:=by simp![aD]
 $({.ref<|s.heap.objs.size+1,_,I.laid (o:=.L<|(aD d).map V.str) (λ_ _=>sortedAll_old) (ach _) ⟨hz,_,c,yU i,∅⟩,ρ,q _<|I.ao.fresh<|ach _})
def yg:List Dat->Option Res
 | [.L ds]=>match dS ds with
  |some a=>if a.length<64 then al (.O<|.L<|(aD a).map .str)else am
  |none=>j6 [.L ds]
 |ds=>j6 ds
theorem W3:CD X (λxs H Q=>(λxs H Q=>v7 X.K xs H Q\/uv xs H Q) xs H Q\/wq xs H Q) yg:=by
 ext c d Z e H b vs ds o Q a S r k;delta yg at a;$$$$$a
 .$$$$$a
  .ext1 f g;$$$$$a
   .ext1 hz;$$$$$$a;let(v,vr,rfl,(p,ws,rfl,h,rs),i):=r;$$i;let j:=kL g rs;$$j;$(τ {p,f,ρ,Rd.mono S.sub h,hz,λl hl=>?_});$(k (.ref l) _ b (S.made hl) (aj.refl _) {l,ρ,{_,a9,mC _,S.dv hl},(S.bJ hl).2,(S.bJ hl).1,S.dM hl})
   $(nO a)
  $(ι<|Aq c d Z e H b vs _ o Q a S r k)
 $(ι<|Aq c d Z e H b vs _ o Q a S r k)
def zj:List Dat->Option Res
 |[.L ds]=>al (.O<|.L ds)
 |[.U ds]=>al (.O<|.L ds)
 |_=>am
def Vo (a:Gl X "list")(hm:X.mg "list"=am)(b:bD X e [])(c:DA X [e] fa):DE X (.Call (.Name "list" p) [e] [] pos) (bT zj fa):=xq OZ (by
  ext H0 ps Z σ H f vs ds o Q e S r k;delta zj at e;$$$$$e
  .$$$e;let(v,g,rfl,(a,b,rfl,c,rs),d):=r;$$$d;$({a,b,ρ,ι<|ι<|Rd.mono S.sub c,λl hl=>?_});$(k (.ref l) _ f (S.made hl) (aj.refl _) {l,ρ,{_,a9,rs,S.dv hl},(S.bJ hl).2,(S.bJ hl).1,S.dM hl})
  .$$$e;let(v,g,rfl,(a,b,rfl,c,rs),d):=r;$$$d;$({a,b,ρ,τ<|bf.mono S.sub c,λl hl=>?_});$(k (.ref l) _ f (S.made hl) (aj.refl _) {l,ρ,{_,a9,rs,S.dv hl},(S.bJ hl).2,(S.bJ hl).1,S.dM hl})
  $(nO e)) a hm (by decide +kernel) c ⋯ ρ b ρ
def Pk (t:s.heap.get? a=al o)(u:o.cls=.type "tuple")(v:o.data=.seq vs.toArray n)(g:acB vs j)(k:vs.length<64)(q:∀(d h:nk) (c:Nat) (f:List cm),(∀b ob,s.heap.get? b=al ob->d.get? b=al ob)->(∀b ob,d.get? b=al ob->h.get? b=al ob)->h.get? d.objs.size=al (aaE "list" f.toArray c)->acB f (aD j)->Q (.ref d.objs.size) {s with heap:=h}):gj (hM prog w) A (call (.builtin "sorted") [.ref a]) Q E s:=by$(aaP af9 afE afG (afH _) ?z);delta ZI.«sorted»;$(bg<|dr<|bg<|wpAny_collect_seq a (τ ρ) t u v (λd k1=>?F) (by simp;rw[wm];$_));$(bg<|adC ?G);let i:(d.push<|aaE "list" vs.toArray 0).get? d.objs.size=al (aaE "list" vs.toArray 0):=gi _ ρ;$(bg<|pl<|se adf ⟨_,i,ρ⟩ acV (ahI afa i g.keysOf (λv₁ v₂ rest e=>afF (by rw[<-e];$g)) k λl x y=>⟨_,ρ,?H⟩)<|adg _);let(ss',p,B,C):=zT g x y;let(c,hD):=aii i;rw[ui B C]at p;$(dr {_,ρ,q d _ c _ k1 (λb ob e=>?I) ∅ p});let D:=gD<|fj e;let r:(d.push<|aaE "list" vs.toArray 0).get? b=al ob:=eu _ e;$((ah6 D<|fj r).trans r)
def GH(K:f'):List V->Hp->VK->Prop:=λxs H Q=>∃p a,xs=[.ref p]/\bf K H p (a.map V.str)/\a.length<64/\∀l,H l=am->Q (.ref l) (upd H l<|.L<|(aD a).map V.str)
def kP:List Dat->Option Res
 |[.U ds]=>(dS ds).bind λa=>if a.length<64 then al (.O<|.L<|(aD a).map .str)else am
 |ds=>yg ds
theorem Lm:CD X (λxs H Q=>((λxs H Q=>v7 X.K xs H Q\/uv xs H Q) xs H Q\/wq xs H Q)\/GH X.K xs H Q) kP:=by
 ext c d Z e H b vs ds o Q a S r k;delta kP at a;$$$$$a
 .let(f,g,a):=oA a;$$$$$a
  .ext1 hz;$$$$$$a;let(v,vr,rfl,(p,ws,rfl,h,rs),i):=r;$$i;let j:=kL g rs;$$j;$(τ {p,f,ρ,bf.mono S.sub h,hz,λl hl=>?_});$(k (.ref l) _ b (S.made hl) (aj.refl _) {l,ρ,{_,a9,mC _,S.dv hl},(S.bJ hl).2,(S.bJ hl).1,S.dM hl})
  $(nO a)
 $(ι<|W3 c d Z e H b vs _ o Q a S r k)
theorem AL{e:hF}{fa:AF}{p:u1}(a:X.ex=[])(b:X.calm=bi)(c:Gl X "sorted")(hm:X.mg "sorted"=am)(d:bD X e [])(f:DA X [e] fa):DE X (.Call (.Name "sorted" p) [e] [] pos) (bT kP fa) :=
 iu (bN.or (bN.or (bN.or (Ia a)<|yH a b) Hb) (by
   ext pins s σ H xs us Q I r h;let(p,b,rfl,g,h64,q):=h;let(u,rfl,i):=r.one;$$i;let(its,d,(o,j,k,n,l),_):=I.tuple g;let m:=vw d;let hl:its.length<64:=by let:=d.length;simp!
   $(Pk j k l m hl λe g2 c vs' k1 k2 t v=>?_);let f:=I.kept (t':=s.toks) k1;let hz:((aD b).map V.str).length<=sizeLine:=by simp![aD]
   $({.ref e.objs.size,_,f.laid (o:=.L<|(aD b).map V.str) k2 (eT _) {hz,_,c,yU v,t},ρ,q _<|f.ao.fresh<|eT _}))) Lm c hm (by decide +kernel) f ⋯ rfl d rfl
def Od(te:TE):TE:=λb H Q=>te b H λv a=>∃d kvs,v=.ref d/\a d=al (.dK kvs)/\∀o,Q v<|upd a d<|.bA o<|.dK kvs
def PY (c:PE X e te):PE X e (Od te):=by$(λa s f H Q I h=>aI (c a s f H _ I h) λv s1 e=>?_);let(y,H1,b,g,i):=e;let(d,kvs,rfl,hd,q):=i;let(z,lo,vs,kv,o,es,ep,ho,rest):=b.ao d _ hd;$({.ref d,_,b.bA hd ho,g,q o})
structure sv (x:eS):Prop where
 ok:True
def nF(f:EF):EF:=λZ=>(f Z).bind λp=>match p.1 with
 |.O (.bK a)=>al (.D<|.cN a,p.2)
 |_=>am
def Wv (ht:sv x)(b:X.N.Nodup)(c:X.N.findIdx? (·==x)=al i)(d:Loc X.env.scope x)(g:X.fn x=bi\/X.env.scope.names.lookup x=some .local)(hs:z8 e (al<|.Name x a) pos.line X.env=pure false)(h:DE X e f):cw X (.Assign [.Name x a] e pos) (jx i<|nF f):=Ay b c d g hs ((λh=>by
  let(t,p,q):=h;$({_,PY p,λd g Z i H j r Z' Q a S k=>?_});let(r1,Z1,l,a):=oB a;dsimp at a;$$$$$a
  .let(rfl,rfl):=sP a;$(q d g Z i H j _ _ _ l S λv H1 Hi1 m n u=>?_);let(p,rfl,b,nl,x,nd):=u;let(kvs,y,z,np):=id b;$({p,kvs,ρ,y,λo=>?_});let(B,c):=m.held b nl x nd;$(k _ _ _ B (n.trans c) {p,o,kvs,ρ,a9,z.mono c})
  $(nO a)) h)
def sR:Dat->Dat->Option Res
 |.int i,.int j=>al (.D<|.bl<|bd<|i<j)
 |.str x,.str y=>al (.D<|.bl<|bd<|x.cps.toList<y.cps.toList)
 |_,_=>am
def Iq:fS X (λx y H Q=>(iZ λi j=>.bl<|bd<|i<j) x y H Q\/(λx y H Q=>∃i j,x=.str i/\y=.str j/\Q (.bl<|bd<|i.cps.toList<j.cps.toList) H) x y H Q) sR:=by
 ext H0 ps Z σ H a x y d d' o Q e S b c k;delta sR at e;$$$$$e
 .$$$e;$$b;$$c;$(ι {_,_,ρ,ρ,k _ H a S (aj.refl _) ρ})
 .$$$$$$e;$$b;$$c;$(τ {_,_,ρ,ρ,k _ H a S (aj.refl _) ρ})
 $(nO e)
def UU (c:DD X a f)(d:DD X b g):DE X (.Compare a [.Lt] [b] pos) (cI sR f g):=tV (aZ.or Cf DH) Iq c d<|kN _
def Oa (c:DD X a f)(d:DD X b g):DT X (.Compare a [.Lt] [b] pos) (fT<|cI sR f g):=oG (aZ.or Cf DH) Iq c d<|kN _
end
section
open Sem (wp)
section
variable{prog:hZ}{w:nL}{A:ow}{E:cm->cA->Prop}{β:Type}
theorem IM:∀(m k j:Nat),j<m->(∀i,k<=i->i<k+j->∀R:ForInStep β->cA->Prop,R (.yield b) s->gj (hM prog w) A (f i b) R E s)->(∀R:ForInStep β->cA->Prop,R (.done r) s'->gj (hM prog w) A (f (k+j) b) R E s)->Q r s' ->
  gj (hM prog w) A (forIn (List.range' k m) b f) Q E s
 |0,_,_,h,_,_,_=>absurd h (z4 _)
 |m+1,k,0,h,_,hd,q=>by$(bg (hd _<|dr q))
 |m+1,k,j+1,h,a,hd,q=>by rw[afS,acI];$(bg<|a k (eT _) ⋯ _ ?_);$(IM m (k+1) j (by lia) (λi h1 h2=>a i (by lia) (by lia)) (by rw[show k+1+j=k+(j+1)from by lia];$hd) q)
end
section
variable{prog:hZ}{w:nL}{A:ow}{E:cm->cA->Prop}{h:nk}{g:Array acQ}{d:Drawn}{t:Nat}{os:OsState}
def Xf{l:dn}{its:Array cm}{n j:Nat}{x:eS}{tx:Tok}{a:List eS}{Q:Fin->cA->Prop}{o:zI}(hl:h.get? l=al o)(f:o.cls=.type "tuple")(hd:o.data=.seq its n)(k:acB its.toList a)(p:a[j]?=al x)(s:∀i,i<j->a[i]?≠al x)
 (q:Q (.done<|.ret<|.int (j:Int) t) {h,g,d,t+1,os}) :
  gj (hM prog w) A (ZI.«tuple.index» {[.ref l,.str x tx],[]}) Q E ⟨h,g,d,t,os⟩:=by
 let(cl,bK,D,sl):=o;subst f hd;let len:a.length=its.size:=by rw[<-k.strs];simp
 let v:j<its.size:=by let:=(cn.1 p).1;$_
 let at_:∀i (b:i<its.size),∃y u,its[i]?=al (Ts y u)/\a[i]?=al y:=λi b=>by let(y,u,e):=k.all its[i] ⋯;$({y,u,by rw[ib b,e],?_});simp?[<-k.strs,dk,gf,ib b,e];rfl
 $$(ZI.«tuple.index»);simp?[agf]
 repeat (any_goals (first|assumption|(with_reducible $(IM (r:=(al<|.done<|.ret<|.int (j:Int) t,())) (s':=⟨h,g,d,t+1,os⟩) _ _ j ?B ?C ?D ?F))|wp_step))
 case B=>simp[age];$_
 case C=>ext i _ b R r;let(y,u,m,c):=at_ i (by lia);rw[m];$(bg<|abK ?_);rw[decide_eq_false (λz=>s i (by lia) (by simp?[c,z])),if_neg s9];$(dr r)
 ext R r;rw[aaS];let(y,u,m,c):=at_ j v;rw[p]at c;$$$$$$c;rw[m];$(bg<|abK ?_);rw[decide_eq_true ρ,if_pos ρ];$(bg ?_);$$(retInt);$(bg<|wpAny_mkInt<|dr<|dr r)
end
end
section
variable{X:Cx}
def VU(K:f'):V->List V->Hp->VK->Prop:=λx vs H Q=>∃(p:dn) (a:List eS) (y:eS) (j:Nat),x=.ref p/\vs=[.str y]/\bf K H p (a.map V.str)/\a[j]?=al y/\(∀i,i<j->a[i]?≠al y)/\Q (.int (j:Int)) H
def Rm:uk X "tuple.index" (VU X.K):=by ext pins s σ H x vs v us Q I d e h;let(p,ss,y,j,rfl,rfl,f,g,i,q):=h;$$d;let(u,rfl,k):=e.one;let(t,rfl):=(k);let(its,a,(o,b,c,n,l),_):=I.tuple f;$(se aeG {_,b,c} F.entry_tuple_index ?_<|F.args_tuple_index_2 _ _);$(Xf b c l (vw a) g i {_,ρ,.int (j:Int),H,I.tok _,{_,ρ},q})
structure yt (K:f') (mg:eS->Option cm) (x:eS) (ss:List eS):Prop where
 is:∃(p:dn) (o:zI) (its:Array cm) (n:Nat),mg x=al (.ref p)/\K.lookup p=al o/\o.cls=.type "tuple"/\o.dict=am/\o.data=.seq its n/\its.size<=c6/\aO (ss.map V.str) its.toList
def JZ(a:List eS)(fa:AF):DF:=λZ=>(fa Z).bind λq=>match q.1 with
 |[.str y]=>if y∈a then al (.int ((a.idxOf y:Nat):Int),q.2)else am
 |_=>am
theorem IK{b:List eS}{y:eS}(h:y∈b):b[b.idxOf y]?=al y/\∀i,i<b.idxOf y->b[i]?≠al y:=by
 induction b with
 |nil=>lk
 |cons a r d =>
  ext(e:a=y)
  .$$e;rw[List.idxOf_cons_self];$({ρ,λi f=>absurd f<|z4 _})
  let h:y∈r:=by
   let rfl||h:=eW.1 h
   .$(absurd ρ e)
   $h
  let g:(a::r).idxOf y=r.idxOf y+1:=by
   let c:(a==y)=bn:=by
    cases c:a==y with
    |false=>rfl
    |true=>$(absurd (eq_of_beq c) e)
   rw[List.idxOf_cons,c];rfl
  rw[g];$({by$$$$((d h).1),λi f=>?_});cases i with
  |zero=>$$$$e
  |succ i=>$$$$((d h).2 i (by lia))
def R1 (g:yt X.K X.mg x f)(A:Gl X x)(hd:bz x)(i:aae (.Name x h) "index" X.env (eval (.Name x h) X.env)=eval (.Name x h) X.env)(l:qF X pos e)(j:(c.endLine==pos.line)=bi)(hs:bD X e [])(B:DA X [e] fa):DD X (.Call (.Attribute (.Name x h) "index" c) [e] [] pos) (JZ f fa):=by
 let(t,p,q):=B;let(a,o,its,n,m,r,s,C,D,E,G):=g.is;$({_,sN PySem.F.plainAttrs_tuple aeG PySem.F.type_tuple_index Rm (ko (v:=.ref a) A m ρ hd) p i l j hs ρ,λI J Z L H M d Z' Q b S k=>?_});let(as,Z2,m,b):=oB b;dsimp at b;$$$$$b
 .$$$$$b
  .ext1 y u;let(rfl,rfl):=sP b;$({τ<|ι ⟨ρ,o,r,s,C⟩,q I J Z L H M _ _ _ m S λvs N w O P R=>?_});let(z,yr,rfl,T,U):=R;$$U;$$T;$({a,f,y,f.idxOf y,ρ,ρ,τ ⟨o,its,n,r,s,D,E,G⟩,(IK u).1,(IK u).2,k _ N w O P ρ})
  $(nO b)
 $(nO b)
def rW:Nat:=1000
def Yd (a:adk (hM X.prog X.w) X.A X.env X.xe)(b:DT X c fc)(d:gS X body fb):cw X (.While c body [] pos) (iD fc fb rW):=WX rW a b d
def K1:cw X (.Raise e c p) (λ_=>am):={λ_ _ _=>False,λ_ _ _ _ _ _ h=>KX h,λ_ _ _ _ _ _ _ _ e=>by$$$e}
def KH (ht:lT x)(d:X.N.findIdx? (·==x)=al i)(e:bV X.env.scope x)(hd:bz x)(a:cB x):dC X b (.Name x c) (Bh i):=(λr s hd g=>by
  $({_,Il<|dU (dI r) s hd g,λH0 ps Z σ H Hi items Z' R a S k=>?_});unfold Bh at a;$$$$$a
  .ext1 fz t e;let(rfl,rfl):=sP a;let(p,c,(_,kvs,u,j,np),nl,n0):=S.O i _ e;$({_,c,p,kvs,ρ,u,λo bs kb=>?_});let(H1,l,f,k1,_):=S.BX kb;let(p',b,(_,kvs',hp',rk',m),_):=l.O i _ e;rw[c]at b;$$$b;let sm:=jr (o:=.bA o<|.dT kvs) m;let(v,y):=l.hold (d':=.bh true t) e c {p,o,kvs,ρ,a9,(j.mono f).mono sm};$(k _ _ _ v (f.trans y)<|Kk a9 ((j.mono f).mono sm) (Paired.tj k1 λ_ _ z=>sm _ _ z))
  $(nO a)) d e hd a
theorem La (ht:lT g)(h:DE X (.Call (.Name g p) a [] pos) f):dC X b (.Call (.Name g p) a [] pos) (vV f):=(λh=>by
  let(t,n,q):=h;$({_,Il n,λH0 ps Z σ H Hi items Z' R a S k=>?_});unfold vV at a;let(r,Z1,s,a):=oB a;dsimp at a;$$$$$a
  .ext1 x A;let(rfl,rfl):=sP a;$(q H0 ps Z σ H Hi _ _ _ s S λv B Hi1 C D E=>?_);let(p,rfl,i,nl,F,nd):=E;let(_,kvs,G,I,np):=id i;$({p,kvs,ρ,G,λo bs kb=>?_});let(c,j,g,k2,J):=C.BX kb;let b:c p=am:=by
    cases z:c p with
    |none=>rfl
    |some u=>let y||(ts,y):=J p u z;simp!;let t:=j.sub _ _ z;simp!
   let l:=i.keeps ρ g b;let sm:=jr (o:=.bA o<|.dT kvs) b;let(L,M):=j.held l nl F nd;$(k _ _ _ L ((D.trans g).trans M)<|Kk a9 ((I.mono g).mono sm) (Paired.tj k2 λ_ _ z=>sm _ _ z))
  $(nO a)) h
end
section
variable{X:Cx}{e k:hF}{te tk:TE}{p2 pos:u1}
def V3(K:f'):V->Hp->VK->Prop:=λx H Q=>∃a xs,x=.ref a/\cC K H a xs/\∀p,H p=am->Q (.ref p) (upd H p<|.L xs.reverse)
def T8(K:f')(te tk:TE):TE:=λa H Q=>te a H λx b=>tk a b λi c=>i=.int (-1)/\V3 K x c Q
theorem aO.rev (h:aO xs vs):aO xs.reverse vs.reverse:=by
 induction h with
 |nil=>$(.nil)
 |cons a b c=>simp?[ab',ab'];$(c.append<|.cons a .nil)
def RZ(l:PE X e te)(m:PE X k tk):PE X (.Subscript e (.Slice am am (al k) p2) pos) (T8 X.K te tk):=by$(λc s f H Q I h=>aeM (aI (l c s f H _ I h) λv n g=>?_));let(x,p,t,u,w):=g;apply wpAny_Slice;$(dr<|dr ?_);$(aI (m c n f p _ t w) λvk d h=>?_);let(i,y,z,A,B):=h;let(rfl,a,xs,rfl,C,q):=B;$$u;let(tk,rfl):=A;let g:Inv X c f y {d with heap:=d.heap.push {cls:=.type "slice",data:=.fields #[.none,.none,.int (-1) tk]} }:=z.kept (t':=d.toks) λb ob q=>eu _ q;let(its,r,j,hz):=g.list C;$(ah5 j.isList.typeIs adY.lookup ?_ (by with_unfolding_all rfl));$(ae2 j.isList (adP ..) .none .none (.int (-1) tk) ⋯ ?_ (by rw[gs,<-r.length];$hz));rw[W.krv_pick];$({.ref _,_,g.laid (λb ob q=>eu _ q) (eT _) ?_,ρ,q _<|g.ao.fresh<|eT _});$({by rw[z3];$hz,_,0,aO.rev r,gi _ ρ})
def Vw:Dat->Option Res
 |.L ds=>al (.O<|.L ds.reverse)
 |_=>am
def xt(f g:DF):EF:=λZ=>(f Z).bind λp=>(g p.2).bind λq=>match q.1 with|.int i=>if i=-1 then(Vw p.1).map λo=>(o,q.2)else am|_=>am
theorem aB.rev{K:f'}{H:Hp}:∀{ds:List Dat}{vs:List V},aB K H ds vs->aB K H ds.reverse vs.reverse
 |[],_,h=>by rw[show _=[]from h];$ρ
 |_::_,_,a=>by let(v,r,e,q,t):=a;simp?[e,ab',ab'];$(aB.append (aB.rev t) {v,[],ρ,q,ρ})
theorem Yr (u:DD X e f)(w:DD X k g):DE X (.Subscript e (.Slice am am (al k) p2) pos) (xt f g):=by
 let(t,p,q):=u;let(th,x,y):=w;$({_,RZ p x,λh j Z l H A o Z' Q b S B=>?_});let(d,Z1,C,b):=oB b;dsimp at b;let(a,Z2,D,b):=oB b;dsimp at b;$$$$$b
 .ext1 i;ext(m:i=-1)
  case neg=>rw[if_neg m]at b;$(nO b)
  $$m;$(q h j Z l H A d Z1 _ C S λv E n F G I=>?_);$(y h j Z1 l E n _ Z2 _ D F λv2 H3 r c s J=>?_);$$J;let K:=Rep.mono s I;cases d with
  |L ds=>let(rfl,rfl):=sP b;let(p,vs,rfl,L,rs):=K;$({ρ,p,vs,ρ,ι<|Rd.mono c.sub L,λz hz=>?_});$(B (.ref z) _ r (c.made hz) (G.trans s) {z,ρ,{_,a9,aB.rev rs,c.dv hz},(c.bJ hz).2,(c.bJ hz).1,c.dM hz})
  |_=>$(nO b)
 $(nO b)
def Sm (a:Gl X "abs")(hm:X.mg "abs"=am)(b:bD X e [])(c:DA X [e] fa):DE X (.Call (.Name "abs" p) [e] [] pos) (bT vM fa):=iu (by ext pins s σ H xs us Q I r h;let(i,rfl,q):=h;let(u,rfl,t,rfl):=vals1 r;$(call_abs_int λu tk=>{.int _,H,I.tok _,{_,ρ},q})) Rk a hm (by decide +kernel) c ⋯ ρ b ρ
def Wc (g:Gl X "range")(hm:X.mg "range"=am)(hs:km [a,b] X.env=[(false,eval a X.env),(false,eval b X.env)])(c:km [b] X.env=[(false,eval b X.env)])(h:DA X [a,b] f):dC X d (.Call (.Name "range" p) [a,b] [] pos) (uw f):=Mn g hm h hs c
end
section
variable{X:Cx}{e:hF}{pos:u1}
def codes(x:List eS):List (List Nat):=x.map λa=>a.cps.toList
theorem D7:∀{a b:List eS},codes a=codes b->a=b
 |[],[],_=>rfl
 |[],_::_,h=>by lk
 |_::_,[],h=>by lk
 |x::a,y::b,h=>by let h:=List.cons.inj h;rw[l7 h.1,D7 h.2]
def lP(fs:List (List eS))(i j:Nat):Bool:=bd<|codes (fs.getD i [])<codes (fs.getD j [])
def Cv (h:¬codes a<codes b)(h':¬codes b<codes a):a=b:=D7<|abr (XP.1 h')<|XP.1 h
def G7 (nd:fs.Nodup):Ord (lP fs) fs.length where
 trans:=λi j k c a=>decide_eq_true<|ac0 (of_decide_eq_true c)<|of_decide_eq_true a
 total:=λi j d f b=>by
  delta lP;rw[eO d,eO f];ext(h:codes fs[i]<codes fs[j])
  .$(ι<|decide_eq_true h)
  $(τ (decide_eq_true ?_));ext(a:codes fs[j]<codes fs[i])
  .$a
  $(absurd ((He nd).1 (Cv h a)) b)
 gB:=λi=>decide_eq_false<|abe _
theorem ED:∀(xs ys:List eS) (us a:List cm) (i:Nat),aO (xs.map V.str) us->aO (ys.map V.str) a->Q (bd<|codes xs<codes ys) s->W.KatLex prog w A b (bd<|us.length<a.length) Q (us.zip a) i s
 | [],ys,us,a,i,d,c,q=>by
  $$$d;let:bd (codes []<codes ys)=bd (([]:List cm).length<a.length):=by
   rw[<-c.length,a8];cases ys with
   |nil=>rfl
   |cons y ys=>rfl
  rw[this]at q;$(W.kat_nil q)
 | x::xs,[],us,a,i,d,c,q=>by
  $$$c;rw[show bd (codes (x::xs)<codes [])=bd (us.length<([]:List cm).length)from(decide_eq_false<|List.not_lt_nil _).trans (decide_eq_false<|z4 _).symm]at q;rw[List.zip_nil_right];$(W.kat_nil q)
 | x::xs,y::ys,_,_,i,.cons f g,.cons j k,q=>by
  let(k1,rfl):=f;let(k2,rfl):=j;$(af3<|abK ?_);ext(e:x=y)
  .$$e;rw[decide_eq_true ρ];apply W.kat_yes;rw[show bd ((Ts x k1::_).length<(Ts x k2::_).length)=bd (_<_)from decide_eq_decide.2 Nat.succ_lt_succ_iff];apply ED xs ys _ _ (i+1) g k;let:bd (codes (x::xs)<codes (x::ys))=bd (codes xs<codes ys):=decide_eq_decide.2 {λh=>(SH.1 h).elim (λz=>absurd z<|abe _) λz=>z.2,λh=>SH.2<|τ ⟨ρ,h⟩};simp!
  rw[decide_eq_false e];let:bd (codes (x::xs)<codes (y::ys))=bd (x.cps.toList<y.cps.toList):=decide_eq_decide.2 {λh=>(SH.1 h).elim id λz=>absurd (l7 z.1) e,λh=>SH.2<|ι h};rw[this]at q;apply ag';cases b&&i==0 with
  |true=>$(oneLt_str q)
  |false=>$(W.kat_one _ _<|lt_str q)
def nH(K:f')(H:Hp)(vs:List V)(fs:List (List eS)):Prop:=vs.length=fs.length/\∀(i:Nat) (f:List eS),fs[i]?=al f->f≠[]/\∃a,vs[i]?=al (.ref a)/\bf K H a (f.map V.str)
def EU(K:f'):List V->Hp->VK->Prop:=λxs H Q=>∃p vs fs,xs=[.ref p]/\Rd H p (.L vs)/\nH K H vs fs/\fs.Nodup/\vs.length<64/\∀out,oD (lP fs) vs out->∀l,H l=am->Q (.ref l) (upd H l<|.L out)
theorem HW (I:Inv X c d H s)(tx:nH X.K H vs fs)(j:aO vs its):∃b:List cm,acG s.heap its b/\b.length=vs.length/\∀v∈b,∀h:nk,agg (hM X.prog X.w) h (typeOf v) (.type "str"):=by
 let k:nG X.K H vs (fs.map λf=>f.headD aaz):=⟨by rw[a8];$(tx.1),λi f e=>by
  rw[dk]at e;let(g,l,rfl):=ft.1 e;let(h0,a,m,n):=tx.2 i g l;$({a,_,m,n,?_});cases g with
  |nil=>cases h0 ρ
  |cons y g=>rfl⟩
 let(b,k1,k2,k3,_):=kat_tups I k j;$({b,k1,by rw[k2,a8];$(tx.1.symm),λv o h=>?_});let(x,t,rfl):=k3 v o;$(adv ρ)
def JQ (I:Inv X f p H s)(tx:nH X.K H vs fs)(l:aO vs its)(i j:Nat)(g:i<vs.length)(h:j<vs.length)(_:i≠j)(h':nk)(c:∀b o xs n,o.data=.seq xs n->s.heap.get? b=al o->h'.get? b=al o)(C:Bool->cA->Prop)(k:C (lP fs i j) {s with heap:=h'}):gj (hM X.prog X.w) X.A.in1.in1 (agA (tuples'<|abl "str" != .type "tuple") (its.getD i ql)<|its.getD j ql) C (λ_ _=>False) {s with heap:=h'}:=by rw[tx.1]at g h;let(_,a,q,r):=tx.2 i _<|bt g;let(_,b,t,u):=tx.2 j _<|bt h;let(_,v,x):=l.get q;let(_,y,z):=l.get t;$$x;$$z;let(us,B,(o,ho,hc,n,hd),_):=I.tuple r;let(D,E,(o',m,hc',n',d),_):=I.tuple u;simp?[l4,v,y];apply aha (c _ _ _ _ hd ho) hd (c _ _ _ _ d m) d;apply ED fs[i] fs[j] us D 0 B E;delta lP at k;rw[eO g,eO h]at k;$k
def Uy(b:X.ex=[]):bN X (.builtin "sorted") (EU X.K):=by ext pins s σ H xs us Q I r h;let(p,vs,fs,rfl,d,tx,nd,c,q):=h;let(u,rfl,f):=r.one;$$f;$(zr b I d c (by rw[tx.1];$(G7 nd)) ⋯ (λits a=>HW I tx a) (λits a=>JQ I tx a) q)
def tupS(f:List eS):Dat:=.U<|f.map .str
def kr:List Dat->Option (List<|List eS)
 |[]=>al []
 |.U ds::l=>(dS ds).bind λx=>if x.isEmpty then am else(kr l).map (x::·)
 |_=>am
def jM(a b:List eS):Bool:=!bd (codes b<codes a)
def cM(fs:List (List eS)):List (List eS):=fs.mergeSort jM
theorem oO{a b:List eS}:jM a b=bi↔¬codes b<codes a:=by delta jM;rw[pe,decide_eq_false_iff_not]
def nz:List Dat->Option Res
 |[.L ds]=>(kr ds).bind λfs=>if fs.Nodup/\fs.length<64 then al (.O<|.L<|(cM fs).map tupS)else am
 |_=>am
theorem vI{K:f'}{H b:Hp}(s:aj b H):∀{ds:List Dat}{vs:List V}{fs:List (List eS)},kr ds=al fs->aB K b ds vs->nH K H vs fs/\aB K b (fs.map tupS) vs
 |[],_,_,e,r=>by$$$$$$e;rw[show _=[]from r];$({{ρ,λi f e=>by simp at e},ρ})
 | d::ds,_,_,e,c=>by
  let(v,j,k,l,rs):=c;cases d with
  |U us =>
   let(x,m,e):=oA e;$$$$$e
   .$(nO e)
   ext1 n;let(ys,o,e):=oM e;$$$$$$e;let((p,q),t):=vI s o rs;let(a,ws,rfl,g,h):=l;let u:=kL m h;$$u;rw[k];$({{by simp?[g8,g8,p],λi f e=>?_},{.ref a,j,ρ,{a,_,ρ,g,mC _},t}});cases i with
   |zero =>
    cases(Option.some.inj e);$({λz=>n (by rw[z];rfl),a,ρ,bf.mono s g})
   |succ i=>$(q i f e)
  |_=>$(nO e)
def yx (P:dB q fs.length)(U:fM (lP fs) q fs.length):(q.toList.map λi=>fs.getD i [])=cM fs:=by
 let pm:(q.toList.map λi=>fs.getD i []).Perm fs:=by let:=P.pm.map<|λi=>fs.getD i [];rwa[Bt]at this
 apply oZ (R:=λa b=>jM a b=bi) (λa b d f=>Cv (oO.1 f)<|oO.1 d)<|pm.trans (gk fs jM).symm
 .rw[pA];ext i j hi m h;let l:j<fs.length:=by rw[<-P.size];$$$$m
  let u:=U i j h l;let g:∀k (hk:k<q.toList.length),q.toList[k]=q.getD k 0:=by simp!
  simp?[za,g,g];$(oO.2 λz=>abe _<|ac0 (of_decide_eq_true u) z)
 $(ub (λa b c d f=>?_) (λa b=>?_) fs);grind [oO];grind [jM]
def xK (a:X.ex=[])(b:Gl X "sorted")(hm:X.mg "sorted"=am)(c:bD X e [])(d:DA X [e] fa):DE X (.Call (.Name "sorted" p) [e] [] pos) (bT nz fa) :=
 iu (Uy a) (by
   ext H0 ps Z σ H g vs ds o Q a S r k;delta nz at a;$$$$$a
   .let(fs,h,a):=oA a;$$$$$a
    .ext1 hz;$$$$$$a;let(v,vr,rfl,(p,d,rfl,j,rs),m):=r;$$m;let(tx,rt):=vI S.sub h rs;let c:=tx.1;$({p,d,fs,ρ,Rd.mono S.sub j,tx,hz.1,by rw[c];$(hz.2),λout h l hl=>?_});let(q,P,U,n):=h;rw[c]at P U;let s:=yx P U;$$n;let f:=aB.pick rt q.toList (λi b=>by rw[c];$(lb P i b));let em:(q.toList.map λi=>(fs.map tupS).getD i .aG)=(cM fs).map tupS:=by rw[<-s,eX];$(t9 λi b=>?_);let b:=lb P i b;show _=tupS (fs.getD i []);rw[eO (by rw[a8];$b),eO b,za]
     rw[em]at f;$(k (.ref l) _ g (S.made hl) (aj.refl _) {l,ρ,{_,a9,f,S.dv hl},(S.bJ hl).2,(S.bJ hl).1,S.dM hl})
    $(nO a)
   $(nO a)) b hm (by decide +kernel) d ⋯ rfl c rfl
end
section
open PySem.SetTable
def gI(a:Nat)(p:acp):Probe:=if p.more>0 then{p with j:=p.j+1,more:=p.more-1}else{p with j:=(ad4 a p.i p.perturb).1,more:=aa' a (ad4 a p.i p.perturb).1-(ad4 a p.i p.perturb).1,i:=(ad4 a p.i p.perturb).1,perturb:=(ad4 a p.i p.perturb).2}
def IW(t:ti)(p:acp):t.advance p=gI t.mask p:=by rfl
def aJ(a:Nat)(p:acp):Nat->acp
 |0=>p
 |n+1=>gI a<|aJ a p n
theorem iT(a)(p)(n):∀m,aJ a p (n+m)=aJ a (aJ a p n) m
 |0=>rfl
 |m+1=>by show gI a (aJ a p<|n+m)=gI a (aJ a (aJ a p n) m);rw[iT a p n m]
theorem vD(a):∀(k:Nat) (p:acp),k<=p.more->aJ a p k={p with j:=p.j+k,more:=p.more-k}
 |0,p,_=>rfl
 |k+1,p,h=>by show gI a (aJ a p k)=_;rw[vD a k p (by lia)];dsimp[gI];rw[if_pos (by show p.more-k>0;lia)];rfl
def Kg(a)(p):∃more,aJ a p (p.more+1)={p with j:=(ad4 a p.i p.perturb).1,more:=more,i:=(ad4 a p.i p.perturb).1,perturb:=p.perturb/32}/\more<=9:=by
 $({aa' a (ad4 a p.i p.perturb).1-(ad4 a p.i p.perturb).1,?_,?_})
 .show gI a (aJ a p p.more)=_;rw[vD a p.more p (eT _)];dsimp[gI];rw[if_neg ⋯];rfl
 delta aa';split<;>lia
theorem IL(a)(p)(h:p.more<=9):∀c,∃n,n<=10*c/\(aJ a p n).more<=9/\(aJ a p n).perturb=p.perturb/32 ^ c/\(c>0->(aJ a p n).j=(aJ a p n).i/\(aJ a p n).i<=a)
 |0=>{0,eT _,h,by simp?[aho,ahM];rfl,λz=>absurd z<|uz _}
 | c+1=>by
  let(n,h1,h2,b,_):=IL a p h c;let(more,e,hm):=Kg a<|aJ a p n;$({n+((aJ a p n).more+1),by lia,?_,?_,λ_=>?_})
  .rw[iT,e];$hm
  .rw[iT,e];simp?[b,aeN,ahp]
  rw[iT,e];$({ρ,rk<|aat _<|abg _})
def fH(a:Nat)(i:Nat):Nat->Nat
 |0=>i
 |c+1=>(fH a i c*5+1)%(a+1)
theorem FC(a)(p)(h:p.more<=9)(b:p.perturb=0)(d:p.j=p.i):∀c,∃n,n<=10*c/\(aJ a p n).more<=9/\(aJ a p n).perturb=0/\(aJ a p n).j=fH a p.i c/\(aJ a p n).i=fH a p.i c
 |0=>{0,eT _,h,b,d,ρ}
 | c+1=>by
  let(n,h1,h2,f,_,k):=FC a p h b d c;let(more,e,hm):=Kg a<|aJ a p n;let g:(ad4 a (aJ a p n).i (aJ a p n).perturb).1=fH a p.i (c+1):=by rw[f,k];rfl
  $({n+((aJ a p n).more+1),by lia,?_,?_,?_,?_})
  .rw[iT,e];$hm
  .rw[iT,e];rw[f]
  .rw[iT,e];$g
  rw[iT,e];$g
def iV(a:Nat):Prop:=a=7\/a=31\/a=127
def uS(a:Nat):Nat->Nat->List Nat
 |0,_=>[]
 |c+1,i=>i::uS a c ((i*5+1)%(a+1))
theorem FQ(a):∀(c i k:Nat),k<c->(uS a c i)[k]?=al (fH a i k)
 |0,_,_,h=>absurd h (z4 _)
 |c+1,i,0,_=>rfl
 | c+1,i,k+1,h=>by
  show(uS a c<|(i*5+1)%(a+1))[k]?=_;rw[FQ a c _ k (by lia)]
  congr 1;let:∀k,fH a ((i*5+1)%(a+1)) k=fH a i (k+1):=λk=>by
   induction k with
   |zero=>rfl
   |succ k ih=>simp![fH]
  $(this k)
theorem vc(b i a):∀c,fH b i (a+c)=fH b (fH b i a) c
 |0=>rfl
 |c+1=>by show(fH b i (a+c)*5+1)%(b+1)=(fH b (fH b i a) c*5+1)%(b+1);rw[vc b i a c]
theorem IJ (hm:iV a)(he:e<=a):∃c,c<=a/\fH a 0 c=e:=by
 let key:∀m∈[7,31,127],∀e:Fin (m+1),(uS m (m+1) 0).contains e.val=bi:=by decide +kernel
 let d:a∈[7,31,127]:=by let rfl||rfl||rfl:=hm<;>simp
 let:=key a d {e,by lia};let(c,b,ec):=kA<|List.contains_iff_mem.1 this;let hl:∀c i,(uS a c i).length=c:=λc=>by
  induction c with
  |zero=>$(λ_=>rfl)
  |succ c f=>$(λi=>congrArg (·+1)<|f _)
 rw[hl]at b;$({c,by lia,?_});let:=FQ a (a+1) 0 c b;simp!
def JO (hm:iV d)(g:i<=d)(j:e<=d):∃c,c<=d/\fH d i c=e:=by
 let(a,ha,k):=IJ hm g;let(b,hb,l):=IJ hm j;let f:fH d 0 (d+1)=0:=by let rfl||rfl||rfl:=hm<;>decide +kernel
 ext(h:a<=b);grind [vc,abR];$({d+1-a+b,⋯,?_});rw[<-k,<-vc,<-Nat.add_assoc,abR (by lia),vc,f];$l
def cover (hm:iV a)(h:p.more<=9)(d:p.perturb<2 ^ 64)(f:e<=a):∃n,n<10*turns a/\(aJ a p n).j=e:=by
 let(n,h1,g,i,l):=IL a p h 13;let hz:(aJ a p n).perturb=0:=by rw[i];$(agb<|iN d ⋯)
 let(b,m):=l ⋯;let(c,hc,o):=JO hm m f;let(k,k1,_,_,q,_):=FC a (aJ a p n) g hz b c;$({n+k,by delta turns;lia,?_});rw[iT,q,o]
def jl(xs:Array Nat):Prop:=xs.toList.Pairwise (·<·)
def jl.lt{xs:Array Nat}(h:jl xs){a b x y:Nat}(c:a<b)(d:xs[a]?=al x)(e:xs[b]?=al y):x<y:=by rw[<-gf]at d e;let(f,rfl):=cn.1 d;let(g,rfl):=cn.1 e;$(pA.1 h a b f g c)
theorem zq (h:jl xs)(j:Nat):∀(fuel lo a:Nat),a-lo<=fuel->lo<=a->a<=xs.size->(∀i x,i<lo->xs[i]?=al x->x<j)->(∀i x,a<=i->xs[i]?=al x->j<=x)->below.go xs j fuel lo a<=xs.size/\(∀i x,i<below.go xs j fuel lo a->xs[i]?=al x->x<j)/\∀i x,below.go xs j fuel lo a<=i->xs[i]?=al x->j<=x
 | 0,lo,a,g,k,b,c,d=>by
  let:lo=a:=by lia
  subst this;$(⟨b,c,d⟩)
 | fuel+1,lo,a,g,k,b,c,d=>by
  unfold below.go;split
  .dsimp;let hm:(lo+a)/2<xs.size:=⋯;let e:=ib hm;let l:xs.getD ((lo+a)/2) j=xs[(lo+a)/2]:=by rw[oy,e];rfl
   rw[l];split
   .ext1 hl;$(zq h j fuel _ a ∅ ∅ b (λi x f ex=>?_) d);ext(z:i=(lo+a)/2);simp!;$(aaT (h.lt ∅ ex e) hl)
   refine zq h j fuel lo _ ∅ ∅ (by lia) c λi x f ex=>?_;ext(z:i=(lo+a)/2);simp!;let:=h.lt ∅ e ex;lia
  let:lo=a:=by lia
  subst this;$(⟨b,c,d⟩)
def zg (h:jl xs)(j:Nat):below xs j<=xs.size/\(∀i x,i<below xs j->xs[i]?=al x->x<j)/\∀i x,below xs j<=i->xs[i]?=al x->j<=x :=
 zq h j xs.size 0 xs.size ⋯ (nT _) (eT _) (λi x a=>absurd a<|z4 _) λi x a e=>by simp!
def below_at (h:jl xs)(e:xs[i]?=al j):below xs j=i:=by
 let(b1,b,c):=zg h j;let z||z||z:=acg (below xs j) i
 .let d:=aaT z (zR.1 e).1;let a:=ib d;let:=h.lt z a e;let:=c _ _ (eT _) a;lia
 .$z
 cases uz _ (b i j z e)
def Cq{t:ti}(h:jl t.place){i j:Nat}(e:t.place[i]?=al j):t.slot j=.live i:=by delta slot;dsimp;rw[below_at h e,e];simp
def Br{t:ti}(hd:t.dummies=#[]){j:Nat}:(∃i,t.slot j=.live i/\t.place[i]?=al j)\/(t.slot j=.empty/\∀i,below t.place j=i->t.place[i]?≠al j):=by
 delta slot;dsimp;split
 .ext1 h;$(ι {_,ρ,by$$$$h})
 right;simp[has];simp!
def xw{t:ti}(h:jl t.place)(hd:t.dummies=#[]){j:Nat}:t.slot j=.empty↔j∉t.place.toList:=by
 constructor
 .ext e a;let(i,b,c):=kA a;let:=Cq h (by rw[<-gf,bt b,c]);simp!
 ext a;let(i,_,e)||(e,_):=Br hd
 .rw[<-gf]at e;$(absurd (eH e) a)
 $e
def OG(xs:Array Nat)(p:Nat)(x:Nat):(Wb xs p x).toList=xs.toList.take p++x::xs.toList.drop p:=by rw[abW]
def jl.insert (h:jl xs)(l:j∉xs.toList):jl (Wb xs (below xs j) j):=by
 let(b1,m,n):=zg h j;delta jl;rw[OG,aaK,Rg];let hA:∀x∈xs.toList.take (below xs j),x<j:=λx c=>by let(i,d,e):=kA c;rw[iW]at d;rw[List.getElem_take]at e;$(m i x ⋯ (by rw[<-gf,bt ∅,e]))
 let g:∀x∈xs.toList.drop (below xs j),j<x:=λx c=>by let(i,d,e):=kA c;rw[tm]at d;rw[List.getElem_drop]at e;let:=n (below xs j+i) x ⋯ (by rw[<-gf,bt ∅,e]);let:x≠j:=λz=>l<|z ▸ aaM c;lia
 $({h.sublist<|abd _ _,⟨g,h.sublist<|List.drop_sublist _ _⟩,λa k b f=>?_});let rfl||f:=eW.1 f
 .$(hA a k)
 $(aaT (hA a k)<|g b f)
structure Good (t:ti) (hs:Array Int):Prop where
 m:iV t.mask
 d:t.dummies=#[]
 sz:t.place.size=hs.size
 rise:jl t.place
 le:∀j∈t.place.toList,j<=t.mask
 nf:t.place.size<=t.mask
 path:∀(i:Nat) (h:Int) (j:Nat),hs[i]?=al h->t.place[i]?=al j->∃n,(aJ t.mask (t.probeStart h) n).j=j/\∀m,m<n->(aJ t.mask (t.probeStart h) m).j∈t.place.toList
def Hg(a)(p):(gI a p).dummy=p.dummy:=by delta gI;split<;>rfl
theorem Kn(a)(p):∀n,(aJ a p n).dummy=p.dummy
 |0=>rfl
 |n+1=>(Hg a _).trans (Kn a p n)
def Cd(a)(p)(n):aJ a (gI a p) n=aJ a p (n+1):=by rw[adA,iT];rfl
theorem Iu (nd:∀j,t.slot j≠.dummy):∀(fuel:Nat) (p:acp) (k:Nat),p.dummy=am->k<fuel->(t.slot (aJ t.mask p k).j=.empty\/∃i,t.slot (aJ t.mask p k).j=.live i/\hashAt i=h)->(∀m,m<k->∃i,t.slot (aJ t.mask p m).j=.live i) ->
  ∃m,m<=k/\((m=k/\t.slot (aJ t.mask p m).j=.empty/\probe.go t hashAt h fuel p=al (.empty (aJ t.mask p m).j am))\/∃i,t.slot (aJ t.mask p m).j=.live i/\hashAt i=h/\probe.go t hashAt h fuel p=al (.candidate (aJ t.mask p m).j i (aJ t.mask p<|m+1)))
 |0,_,_,_,b,_,_=>absurd b (z4 _)
 | fuel+1,p,k,hd,b,a,hl=>by
  dsimp[probe.go];cases e:t.slot p.j with
  |dummy=>cases nd _ e
  |empty =>
   cases k with
   |zero=>$({0,eT _,ι {ρ,e,by dsimp;rw[hd];rfl}})
   |succ k=>let(i,z):=hl 0<|abg _;rw[show(aJ t.mask p 0)=p from ρ,e]at z;lk
  |live i =>
   dsimp;ext(hh:hashAt i=h)
   .$({0,nT _,τ {i,e,hh,?_}});rw[if_pos (by$$$$hh),IW];rfl
   rw[if_neg (by$$$$hh),IW];cases k with
   |zero =>
    let a||(i',a,hh'):=a
    .rw[show(aJ t.mask p 0)=p from ρ,e]at a;lk
    rw[show(aJ t.mask p 0)=p from ρ,e]at a;lia
   |succ k=>let(m,hm,r):=Iu nd fuel (gI t.mask p) k (by rw[Hg];$hd) (by lia) (by rw[Cd];$a) (by simp![Cd]);$({m+1,∅,?_});simp![Cd]
def Good.J' (g:Good t hs)(j:Nat):t.slot j≠.dummy:=λe=>by let(i,a,_)||(a,_):=Br g.d<;>rw[a]at e<;>lk
def HH(t:ti)(h:Int):(t.probeStart h).more<=9/\(t.probeStart h).perturb<2 ^ 64/\(t.probeStart h).dummy=am:=by
 $({?_,?_,ρ})
 .show aa' t.mask _-_<=9;delta aa';split<;>lia
 show adw h<2 ^ 64;simp[adw,aau]
def Good.ends (g:Good t hs)(h:Int):∃n,n<10*turns t.mask/\t.slot (aJ t.mask (t.probeStart h) n).j=.empty:=by
 let ex:∃e,e<=t.mask/\e∉t.place.toList:=by$(r4 λno=>?_);let sub:∀e∈hE (t.mask+1),e∈t.place.toList:=λe a=>r4 λz=>no {e,rk<|hI.1 a,z};let:=YP acs sub;rw[me,hS]at this;let:=g.nf;lia
 let(e,a,b):=ex;let(c,f,_):=HH t h;let(n,i,k):=cover g.m c f a;$({n,i,by rw[k];$((xw g.rise g.d).2 b)})
theorem Good.stop{t:ti}{hs:Array Int}(g:Good t hs)(h:Int)(is:Nat->Prop)(r:∀i,is i->hs[i]?=al h) :
  ∃N,N<10*turns t.mask/\(∀m,m<N->∃i,t.slot (aJ t.mask (t.probeStart h) m).j=.live i/\¬is i)/\((t.slot (aJ t.mask (t.probeStart h) N).j=.empty/\∀i,¬is i)\/∃i,t.slot (aJ t.mask (t.probeStart h) N).j=.live i/\is i):=by
 let(n,hn,s):=g.ends h;let key:∀k,k<=n->(∀m,m<k->∃i,t.slot (aJ t.mask (t.probeStart h) m).j=.live i/\¬is i)\/∃N,N<k/\(∀m,m<N->∃i,t.slot (aJ t.mask (t.probeStart h) m).j=.live i/\¬is i)/\(t.slot (aJ t.mask (t.probeStart h) N).j=.empty\/∃i,t.slot (aJ t.mask (t.probeStart h) N).j=.live i/\is i):=λk=>by
  induction k with
  |zero=>$(λ_=>ι λm hm=>absurd hm (z4 _))
  |succ k u =>
   ext hk;rcases u (by lia)with a|⟨N,a,b⟩
   .cases e:t.slot (aJ t.mask (t.probeStart h) k).j with
    |dummy=>cases g.J' _ e
    |empty=>$(τ {k,aaU _,a,ι e})
    |live i =>
     ext(z:is i)
     .$(τ {k,aaU _,a,τ ⟨i,e,z⟩})
     $(ι λm hm=>?_);ext(q:m=k);simp!;$(a m (by lia))
   $(τ {N,by lia,b})
 let f:∃N,N<=n/\(∀m,m<N->∃i,t.slot (aJ t.mask (t.probeStart h) m).j=.live i/\¬is i)/\(t.slot (aJ t.mask (t.probeStart h) N).j=.empty\/∃i,t.slot (aJ t.mask (t.probeStart h) N).j=.live i/\is i):=by
  let a||(N,a,b):=key n (eT _)
  .$({n,eT _,a,ι s})
  $({N,by lia,b})
 let(N,hN,a,b):=f;$({N,by lia,a,?_});let b||b:=b
 .$(ι {b,λi z=>?_});let hh:=r i z;let l:i<t.place.size:=by rw[g.sz];$((zR.1 hh).1)
  let c:=ib l;let(o,p,v):=g.path i h _ hh c;let q||q||q:=acg o N
  .let(i',w,ne):=a o q;rw[p,Cq g.rise c]at w;simp!
  .$$q;rw[p,Cq g.rise c]at b;lk
  $((xw g.rise g.d).1 b (v N q))
 $(τ b)
def CQ (h:i<=a):i+(aa' a i-i)<=a:=by delta aa';split<;>lia
def Tc (h:p.j+p.more<=a):(gI a p).j+(gI a p).more<=a:=by delta gI;split;lia;$(CQ<|rk<|aat _<|abg _)
theorem Hr (h:p.j+p.more<=a):∀n,(aJ a p n).j+(aJ a p n).more<=a
 |0=>h
 |n+1=>Tc<|Hr h n
def Ho(t:ti)(h:Int)(n:Nat):(aJ t.mask (t.probeStart h) n).j<=t.mask:=by let:(t.probeStart h).j+(t.probeStart h).more<=t.mask:=CQ<|rk<|aat _<|abg _;let:=Hr this n;lia
def J4 (hp:p<=xs.size)(e:(Wb xs p x)[i]?=al y):(i=p/\y=x)\/(i<p/\xs[i]?=al y)\/(p<i/\xs[i-1]?=al y):=by
 rw[<-gf,abW]at e;let hl:(xs.toList.take p).length=p:=by simp?[iW,hS];lia
 let h||h||h:=acg i p
 .rw[kH ∅,afm,if_pos h]at e;$(τ<|ι ⟨h,by rw[<-gf];$e⟩)
 .rw[kq ∅,hl,h,adz]at e;$(ι {h,(Option.some.inj e).symm})
 rw[kq ∅,hl,show i-p=(i-p-1)+1 by lia,aeB,ac6]at e;$(τ<|τ ⟨h,by rw[<-gf,show i-1=p+(i-p-1)by lia];$e⟩)
def BB:y∈(Wb xs p x).toList↔y=x\/y∈xs.toList:=by rw[(acf xs p x).mem_iff,adi,eK,kn,or_comm]
def xo (xs:Array a)(p:Nat)(x:a):(Wb xs p x).size=xs.size+1:=by let:=(acf xs p x).length_eq;$$$$this
def CG{t:ti}(hd:t.dummies=#[])(j:Nat):t.put j=({t with place:=Wb t.place (below t.place j) j},below t.place j):=by simp![SetTable.put,has]
def Good.put (g:Good t hs)(x:t.slot (aJ t.mask (t.probeStart h) N).j=.empty)(hl:∀m,m<N->∃i,t.slot (aJ t.mask (t.probeStart h) m).j=.live i)(room:t.place.size+1<=t.mask) :
  Good (t.put (aJ t.mask (t.probeStart h) N).j).1 (Wb hs (t.put (aJ t.mask (t.probeStart h) N).j).2 h):=by
 let A:=(xw g.rise g.d).1 x;let o:=Ho t h N;let p:∀m,m<N->(aJ t.mask (t.probeStart h) m).j∈t.place.toList:=λm hm=>by let(i,e):=hl m hm;$(r4 λz=>by rw[(xw g.rise g.d).2 z]at e;lk)
 simp[CG g.d];let(s,_,_):=zg g.rise (aJ t.mask (t.probeStart h) N).j;generalize u:(aJ t.mask (t.probeStart h) N).j=j at *;$({g.m,g.d,?_,g.rise.insert A,λy B=>?_,?_,λi h' l C D=>?_})
 .rw[xo,xo,g.sz]
 .let rfl||z:=BB.1 B
  .$o
  $(g.le y z)
 .rwa[xo]
 let v:below t.place j<=hs.size:=by rw[<-g.sz];$s
 let k:∀i,hs[i]?=al h'->t.place[i]?=al l->∃n,(aJ t.mask (t.probeStart h') n).j=l/\∀m,m<n->(aJ t.mask (t.probeStart h') m).j∈(Wb t.place (below t.place j) j).toList:=λi a b=>by let(n,c,d):=g.path i h' l a b;$({n,c,λm hm=>BB.2<|τ<|d m hm})
 let(q,r)||(q,r)||(q,r):=J4 v C<;>let(w,f)||(w,f)||(w,f):=J4 s D<;>try lia
 .rw[r,f];$({N,u,λm hm=>BB.2<|τ<|p m hm})
 .$(k i r f)
 $(k (i-1) r f)
def Good.fresh(fingerV movesV)(led):Good (SetTable.fresh fingerV movesV led) #[]:={ι ρ,ρ,ρ,acJ,λj h=>(by$$$h),nT _,λi h j e=>(by simp at e)}
def lp(a:Nat)(s:Nat×Nat):Nat->Nat×Nat
 |0=>s
 |c+1=>lp a (ad4 a s.1 s.2) c
def kU(a:Nat)(s:Nat×Nat):Probe:={j:=s.1,more:=aa' a s.1-s.1,i:=s.1,perturb:=s.2,dummy:=am}
def Dr(a)(s):aJ a (kU a s) (aa' a s.1-s.1+1)=kU a (ad4 a s.1 s.2):=by simp[gI,aJ,kU,vD]
def Kb(a i):i<=aa' a i:=by delta aa';split<;>lia
theorem DY:∀(fuel:Nat) (s:Nat×Nat) (j:Nat),aal a owner fuel s.1 s.2=al j->∃n,(aJ a (kU a s) n).j=j/\(owner.getD j<|al 0).isNone=bi/\∀m,m<n->(owner.getD (aJ a (kU a s) m).j (al 0)).isSome=bi
 |0,_,_,h=>by$(nO h)
 | fuel+1,s,j,h=>by
  unfold aal at h;let re:=Kb a s.1;let b:∀k,k<=aa' a s.1-s.1->(aJ a (kU a s) k).j=s.1+k:=λk c=>by rw[vD a k (kU a s) c];rfl
  cases e:(hE<|aa' a s.1+1-s.1).find? λk=>(owner.getD (s.1+k)<|al 0).isNone with
  |some k=>rw[e]at h;let h:=Option.some.inj h;let c:=hI.1<|z7 e;$({k,by grind,by rw[<-h];let:=aa7 e;$this,λm hm=>?_});rw[b m ∅];simp!
  |none =>
   rw[e]at h;let(n,d,f,g):=DY fuel (ad4 a s.1 s.2) j h;$({aa' a s.1-s.1+1+n,by rw[iT,Dr];$d,f,λm hm=>?_});ext(q:m<aa' a s.1-s.1+1)
   .rw[b m (by lia)];let:=aao.1 e m<|hI.2 ∅;cases ho:owner.getD (s.1+m) (al 0)with
    |none=>simp!
    |some v=>rfl
   let i:m=aa' a s.1-s.1+1+(m-(aa' a s.1-s.1+1)):=⋯;rw[i,iT,Dr];$(g _ (by lia))
theorem vU(a):∀(c:Nat) (s:Nat×Nat),lp a s (c+1)=ad4 a (lp a s c).1 (lp a s c).2
 |0,_=>rfl
 |c+1,s=>by show lp a (ad4 a s.1 s.2) (c+1)=_;rw[vU a c];rfl
theorem Di(a)(s):∀c,(lp a s c).2=s.2/32 ^ c
 |0=>by simp?[aho,ahM];rfl
 |c+1=>by rw[vU];show(lp a s c).2/32=_;simp?[Di a s c,aeN,ahp]
theorem QO (h:s.1<=a):∀c,(lp a s c).1<=a
 |0=>h
 |c+1=>by rw[vU];$(rk<|aat _<|abg _)
theorem HV (h:s.2<2 ^ 64):∀c,(lp a s<|13+c).1=fH a (lp a s 13).1 c
 |0=>rfl
 | c+1=>by
  show(lp a s<|13+c+1).1=_;rw[vU];show((lp a s<|13+c).1*5+1+(lp a s<|13+c).2/32)%(a+1)=(fH a (lp a s 13).1 c*5+1)%(a+1);let z:(lp a s<|13+c).2=0:=by rw[Di];refine agb<|iN h<|n5 (show 2 ^ 64<=32 ^ 13 by decide)<|Nat.pow_le_pow_right ⋯ ⋯
  rw[z,HV h c]
def WN (hm:iV a)(b:s.1<=a)(d:s.2<2 ^ 64)(f:e<=a):∃c,c<turns a/\(lp a s c).1=e:=by let(c,hc,g):=JO hm (QO b 13) f;$({13+c,by delta turns;lia,by rw[HV d];$g})
theorem Dw:∀(fuel:Nat) (s:Nat×Nat),aal a owner fuel s.1 s.2=am->∀c,c<fuel->(owner.getD (lp a s c).1 (al 0)).isNone=bn
 |0,_,_,_,b=>absurd b (z4 _)
 | fuel+1,s,h,c,b=>by
  unfold aal at h;let re:=Kb a s.1;cases e:(hE<|aa' a s.1+1-s.1).find? λk=>(owner.getD (s.1+k)<|al 0).isNone with
  |some k=>rw[e]at h;lk
  |none =>
   rw[e]at h;cases c with
   |zero=>let:=aao.1 e 0<|hI.2 ⋯;$(acd.2 this)
   |succ c=>$(Dw fuel (ad4 a s.1 s.2) h c (by lia))
theorem Qe{a:Nat}(hm:iV a){owner:Array (Option Nat)}{s:Nat×Nat}(b:s.1<=a)(d:s.2<2 ^ 64){e:Nat}(f:e<=a)(g:(owner.getD e<|al 0).isNone=bi):∃j,aal a owner (turns a) s.1 s.2=al j:=by
 cases q:aal a owner (turns a) s.1 s.2 with
 |some j=>$(⟨j,ρ⟩)
 |none=>let(c,h,i):=WN hm b d f;let:=Dw _ s q c h;rw[i,g]at this;lk
structure Laid (maskV:Nat) (hs:List Int) (owner:Array (Option Nat)) (k:Nat):Prop where
 sz:owner.size=maskV+1
 O:∀i,i<k->∃j:Nat,owner[j]?=al (al i)
 inj:∀j j' i:Nat,owner[j]?=al (al i)->owner[j']?=al (al i)->j=j'
 lt:∀j i:Nat,owner[j]?=al (al i)->i<k
 path:∀(i:Nat) (h:Int) (j:Nat),hs[i]?=al h->owner[j]?=al (al i)->∃n,(aJ maskV (kU maskV (adw h%(maskV+1),adw h)) n).j=j/\∀m,m<n->∃v,owner[(aJ maskV (kU maskV (adw h%(maskV+1),adw h)) m).j]?=al (al v)
def Jg(a)(h)(n):(aJ a (kU a (adw h%(a+1),adw h)) n).j<=a:=Ho {SetTable.fresh 0 0 true with mask:=a} h n
def getD_none{owner:Array (Option Nat)}{j:Nat}(hj:j<owner.size):(owner.getD j<|al 0).isNone=bi↔owner[j]?=al am:=by simp!
def getD_some{owner:Array (Option Nat)}{j:Nat}(a:j<owner.size):(owner.getD j<|al 0).isSome=bi↔∃v,owner[j]?=al (al v):=by rw[oy,ib a];cases h:owner[j]<;>simp
theorem Laid.step (hm:iV c)(L:Laid c hs owner k)(E:hs[k]?=al h)(room:k<=c):∃j,aal c owner (turns c) (adw h%(c+1)) (adw h)=al j/\Laid c hs (owner.setIfInBounds j<|al k) (k+1):=by
 let ex:∃e,e<=c/\(owner.getD e<|al 0).isNone=bi:=by
  $(r4 λno=>?_)
  let all:∀e,e<=c->∃v,owner[e]?=al (al v):=λe l=>(getD_some (by rw[L.sz];$_)).1 (by
   cases q:owner.getD e (al 0)with
   |none=>$(absurd {e,l,by rw[q];rfl} no)
   |some v=>rfl)
  let' g:Nat->Nat:=λe=>((owner[e]?).bind id).getD 0;let x:∀e,e<=c->owner[e]?=al (al<|g e):=λe l=>by let(v,o):=all e l;show owner[e]?=al (al<|((owner[e]?).bind id).getD 0);rw[o];rfl
  let nd:((hE<|c+1).map g).Nodup:=gd.2 (acs.imp_of_mem λ{a b} p F A e=>A<|L.inj a b (g a) (x a<|rk<|hI.1 p) (by rw[e];$(x b<|rk<|hI.1 F)));let sub:∀v∈(hE<|c+1).map g,v∈hE k:=λv o=>by let(e,l,rfl):=ae.1 o;$(hI.2<|L.lt e _<|x e<|rk<|hI.1 l)
  let:=YP nd sub;rw[a8,me,me]at this;lia
 let(e,l,G):=ex;let B:adw h%(c+1)<=c:=rk<|aat _<|abg _;let(j,C):=Qe hm (s:=(adw h%(c+1),adw h)) B ((λh=>(HH (SetTable.fresh 0 0 true) h).2.1) h) l G;let(n,D,H,I):=DY _ (adw h%(c+1),adw h) j C;let hj:j<=c:=by rw[<-D];$(Jg c h n)
 let w:j<owner.size:=by rw[L.sz];lia
 let J:=(getD_none w).1 H;let r:∀a:Nat,(owner.setIfInBounds j<|al k)[a]?=if a=j then al (al k)else owner[a]?:=λa=>by
  rw[Array.getElem?_setIfInBounds];ext(q:j=a)
  .$$q;rw[if_pos ρ,if_pos ρ,if_pos w]
  rw[if_neg q,if_neg<|λz=>q z.symm]
 let keep:∀a v,owner[a]?=al (al v)->(owner.setIfInBounds j<|al k)[a]?=al (al v):=λa v p=>by rw[r,if_neg (λz=>by rw[z,J]at p;$$$p)];$p
 $({j,C,{by rw[Array.size_setIfInBounds];$L.sz,λi B=>?_,λa b i d t=>?_,λa i d=>?_,λi h' a y u=>?_}})
 .ext(q:i=k)
  .$$q;$({j,by rw[r,if_pos ρ]})
  let(a,p):=L.O i (by lia);$({a,keep a i p})
 .rw[r]at d t;$$$$$d<;>$$$$$t
  .lia
  .$$$d;let:=L.lt b k t;$_
  .$$$t;let:=L.lt a k d;$_
  $(L.inj a b i d t)
 .rw[r]at d;$$$$$d
  .$$$d;lia
  let:=L.lt a i d;lia
 rw[r]at u;$$$$$u
 .$$$u;rw[E]at y;$$$$$$y;ext1 q;$$q;$({n,D,λm hm=>?_});let(v,o):=(getD_some (by rw[L.sz];let:=Jg c h m;lia)).1 (I m hm);$({v,keep _ v o})
 let(K,M,N):=L.path i h' a y u;$({K,M,λm hm=>?_});let(v,o):=N m hm;$({v,keep _ v o})
def vj(a:Nat)(b:Option (Array (Option Nat)×Nat))(h:Int):Option (Array (Option Nat)×Nat):=do
 let(owner,k) <-b;let j <-aal a owner (turns a) (adw h%(a+1)) (adw h)
 pure (owner.setIfInBounds j<|al k,k+1)
theorem G3 (hm:iV a)(d:hs.length<=a):∀(l pre:List Int) (owner:Array (Option Nat)),hs=pre++l->Laid a hs owner pre.length->∃b,l.foldl (vj a) (al (owner,pre.length))=al (b,hs.length)/\Laid a hs b hs.length
 |[],pre,owner,e,L=>by rw[nS]at e;$$e;$(⟨owner,ρ,L⟩)
 | h::l,pre,owner,e,L=>by
  let f:hs[pre.length]?=al h:=by rw[e,kq<|eT _,adz];rfl
  let hl:pre.length<hs.length:=by simp!
  let(j,ej,g):=L.step hm f (by lia);let(b,i,c):=G3 hm d l (pre++[h]) (owner.setIfInBounds j<|al pre.length) (by rw[e,pw];rfl) (by rw[eR];$g);$({b,?_,c});simp;let:vj a (al (owner,pre.length)) h=al (owner.setIfInBounds j<|al pre.length,(pre++[h]).length):=by delta vj;simp!
  rwa[this]
def NJ (hm:iV a)(hs:Array Int)(hn:hs.size<=a):∃owner,layClean a hs=al owner/\Laid a hs.toList owner hs.size:=by
 let b:Laid a hs.toList (adO (a+1) am) 0:=by
  let no:∀j i:Nat,(adO (a+1) (am:Option Nat))[j]?≠al (al i):=by simp[Array.getElem?_replicate]
  $({Array.size_replicate,λi c=>absurd c<|z4 _,λj j' i e=>absurd e<|no j i,λj i e=>absurd e<|no j i,λi h j _ e=>absurd e<|no j i})
 let(owner,e,L):=G3 hm (hs:=hs.toList) ∅ hs.toList [] _ ρ b;$({owner,?_,L});show(hs.foldl (vj a)<|al (adO (a+1) am,0)).map (·.1)=_;simp!
def iq(a:Nat)(owner:Array (Option Nat)):List (Nat×Nat):=(hE<|a+1).filterMap λj=>(owner.getD j am).map (j,·)
theorem pj (L:Laid b hs owner n):(j,i)∈iq b owner↔owner[j]?=al (al i):=by
 delta iq;rw[pz];let c:∀a,owner.getD a am=(owner[a]?).getD am:=λa=>oy ..;constructor
 .ext⟨a,ha,e⟩;rw[c]at e;cases q:owner[a]? with
  |none=>rw[q]at e;$(nO e)
  |some o=>simp!
 ext e;let d:=(zR.1 e).1;$({j,hI.2 (by rw[<-L.sz];$d),by rw[c,e];rfl})
def Gx(c)(owner):((iq c owner).map (·.1)).Pairwise (·<·):=by delta iq;rw[gd,aeA];$(List.pairwise_lt_range.imp λ{a b} d x e y f=>?_);let(u,_,rfl):=ft.1 e;let(v,_,rfl):=ft.1 f;$d
def RY (L:Laid c hs owner n):((iq c owner).map (·.2)).Perm (hE n):=by
 $((iR ?_ acs).2 λi=>?_)
 .$(gd.2 ((gd.1<|Gx c owner).imp_of_mem λ{a b} f g hab e=>?_));let(h,d):=a;let(k,l):=b;$$e;let:=L.inj h k d ((pj L).1 f)<|(pj L).1 g;simp!
 rw[ae,hI];constructor
 .ext⟨⟨j,v⟩,m,rfl⟩;$(L.lt j v<|(pj L).1 m)
 ext o;let(j,p):=L.O i o;$({(j,i),(pj L).2 p,ρ})
theorem vH (xs:Array d):∀(l:List Nat),(∀i∈l,i<xs.size)->(l.filterMap λi=>xs[i]?).length=l.length/\∀k i:Nat,l[k]?=al i->(l.filterMap λi=>xs[i]?)[k]?=xs[i]?
 |[],_=>{ρ,λk i e=>by$(nO e)}
 | a::l,h=>by
  let(f,g):=vH xs l λi j=>h i<|fk _ j;obtain⟨y,b⟩:∃y,xs[a]?=al y:={_,ib<|h a fm};let e:((a::l).filterMap λi=>xs[i]?)=y::l.filterMap λi=>xs[i]?:=by simp?[aa1,b]
  rw[e];$({by simp?[g8,g8,f],λk i c=>?_});cases k with
  |zero=>cases(Option.some.inj c);$b.symm
  |succ k=>$(g k i c)
def Good.laid{b fingerV movesV:Nat}{led plain:Bool}(hm:iV b){hs:Array Int}(l:hs.size<=b):∃t order,SetTable.laid b fingerV movesV led plain hs=al (t,order)/\t.mask=b/\t.led=led/\t.moves=movesV/\t.plain=plain/\order.toList.Perm (hE hs.size)/\Good t (order.filterMap λi=>hs[i]?):=by
 let(owner,e,L):=NJ hm hs l;let pm:=RY L;let rs:=Gx b owner;$({{mask:=b,place:=((iq b owner).map (·.1)).toArray,dummies:=#[],finger:=fingerV,led:=led,moves:=movesV,plain:=plain},((iq b owner).map (·.2)).toArray,?_,ρ,ρ,ρ,ρ,pm,?_})
 .delta SetTable.laid;rw[e];rfl
 let all:∀i∈(iq b owner).map (·.2),i<hs.size:=λi o=>hI.1<|pm.mem_iff.1 o;let(m1,p):=vH hs _ all;let q:(((iq b owner).map (·.2)).toArray.filterMap λi=>hs[i]?).toList=((iq b owner).map (·.2)).filterMap λi=>hs[i]?:=by rw[acx]
 let ll:(iq b owner).length=hs.size:=by let:=pm.length_eq;simp!
 let f:∀j v,owner[j]?=al (al v)->j∈(iq b owner).map (·.1):=λj v h=>ae.2 {(j,v),(pj L).2 h,ρ};$({hm,ρ,?_,rs,λj d=>?_,?_,λi h j g c=>?_});simp!
 .let d:=d;let((a,v),r,rfl):=ae.1 d;let:=(zR.1<|(pj L).1 r).1;rw[L.sz]at this;$(rk this)
 simp!;let c:=c;rw[acN,dk]at c;let((a,v),k,rfl):=ft.1 c;let s:=(pj L).1 (eH k);rw[<-gf,q,p i v (by rw[dk,k];rfl),<-gf]at g;let(n,w,x):=L.path v h a g s;$({n,w,λm hm=>?_});let(u,y):=x m hm;$(f _ u y)
section
variable{prog:hZ}{w:nL}{K:Type}[DecidableEq K]{knd:KeyKind prog w K}{A:ow}{E:cm->cA->Prop}{s:cA}
def MK(n)(h:adb v=bi):ad0 n v=pure false:=by
 $$$v<;>first|($$$n<;>rfl)|lk
def Hn (e:pq knd s.heap g a)(h:Q false s):gj (hM prog w) A (ad0 8<|.ref a) Q E s:=by
 let i:=e.typeIs;let(o,items,n,ho,_,hd,j):=e;$$(ad0);$(bg<|ab8 i ?_);$(bg<|dr ?_);$(bg<|acj ho hd ?_);apply bg;rw[<-afg];$(agY _ (λb r s'=>r.1=am/\s'=s/\∀v∈b,adb v=bi) _ ?_ ?_ _ _ ⟨ρ,ρ,j.byValue⟩)
 .ext v b r s' ⟨d,rfl,c⟩;rw[MK _ (c v fm)];$(bg<|dr ?_);$(dr {ρ,ρ,λu f=>c u<|fk _ f})
 ext⟨r1,r2⟩ s' ⟨d,rfl,_⟩;$$d;$(dr h)
def QA (j:pq knd s.heap k x)(m:∀y∈ys,∃a d,y=.ref a/\pq knd s.heap d a)(h:Q false s):gj (hM prog w) A (agM (.ref x) ys) Q E s:=by
 apply bg;$(agY _ (λb r s'=>r.1=am/\s'=s/\∀y∈b,∃a d,y=.ref a/\pq knd s.heap d a) _ ?_ ?_ _ _ ⟨ρ,ρ,m⟩)
 .ext v b r s' ⟨i,rfl,f⟩;let(a,d,rfl,g):=f v fm;let c:∀y∈b,∃a d,y=.ref a/\pq knd s'.heap d a:=λu l=>f u (fk _ l);ext(e:(x==a||(adb (.ref x)&&adb (.ref a)))=bi)
  .rw[if_pos e];$(dr ⟨ρ,ρ,c⟩)
  rw[if_neg e];$(bg<|afP j ?_);$(bg<|afP g ?_);$(bg<|Hn j ?_);$(bg<|Hn g ?_);$(dr ⟨ρ,ρ,c⟩)
 ext⟨r1,r2⟩ s' ⟨i,rfl,_⟩;$$i;$(dr h)
end
end
section
open PySem.SetTable
section
variable{prog:hZ}{w:nL}{K:Type}[DecidableEq K]{knd:KeyKind prog w K}{A:ow}{E:cm->cA->Prop}{s:cA}
def hA(a:Array (Int×cm))(i:Nat):Int:=(a[i]?.map (·.1)).getD 0
def tF(knd:KeyKind prog w K)(h:nk)(b:Array (Int×cm)):Prop:=∀(i:Nat) (e:Int×cm),b[i]?=al e->∃a k,e=(k7 knd k,mA a)/\pq knd h k a
def At(knd:KeyKind prog w K)(h:nk)(b:Array (Int×cm))(k:List K)(i:Nat):Prop:=∃a,b[i]?=al (k7 knd k,mA a)/\pq knd h k a
def Good.fits{t:ti}{a:Array (Int×cm)}(g:Good t (a.map (·.1))):t.fits a.size=bi:=by delta SetTable.fits afy;simp?[g.sz,g.d,aaa];let:=g.nf;rw[g.sz,aaa]at this;$$$$this
def odd (h:iV m):(m%2==0)=bn:=by let rfl||rfl||rfl:=h<;>rfl
theorem Mi (ho:s.heap.get? S=al o)(hd:o.data=.set p ep t)(g:Good t (p.map (·.1)))(H:tF knd s.heap p)(M:pq knd s.heap k x)(P:A.units<u2)(hN:N<10*turns t.mask)(hl:∀m,m<N->∃i,t.slot (aJ t.mask (t.probeStart<|k7 knd k) m).j=.live i/\¬At knd s.heap p k i)(D:(t.slot (aJ t.mask (t.probeStart<|k7 knd k) N).j=.empty/\Q (.free (aJ t.mask (t.probeStart<|k7 knd k) N).j false) s)\/((∃i,t.slot (aJ t.mask (t.probeStart<|k7 knd k) N).j=.live i/\At knd s.heap p k i)/\Q (.there am) s)) :
  ∀(d n:Nat) (stand:Option acp) (b:Nat),N-n=d->n<=N->d<b->stand.getD (t.probeStart<|k7 knd k)=aJ t.mask (t.probeStart<|k7 knd k) n->gj (hM prog w) A (aia S (.ref x) (k7 knd k) true b stand) Q E s:=by
 ext d;induction d using Nat.strongRecOn with
 |ind d R =>
  ext n stand b hdn I T hs;obtain⟨b,rfl⟩:∃f,b=f+1:={b-1,by lia};$(bg<|wa ho hd g.fits ?_);dsimp;rw[show t.gaveWay=bn from odd g.m,hs];simp?[kB,if_false];let F:∀m,aJ t.mask (aJ t.mask (t.probeStart<|k7 knd k) n) m=aJ t.mask (t.probeStart<|k7 knd k) (n+m):=λm=>(iT ..).symm;let U:∀i,At knd s.heap p k i->hA p i=k7 knd k:=λi ⟨a,e,_⟩=>by delta hA;rw[e];rfl
  let gm:=Iu g.J' (10*turns t.mask) (aJ t.mask (t.probeStart<|k7 knd k) n) (N-n) (by rw[Kn];rfl) (by lia) (by
   rw[F,abR I];let(h,_)||((i,h,ha),_):=D
   .$(ι h)
   .$(τ {i,h,U i ha})) (λm hm=>by
   rw[F];let(i,h,_):=hl (n+m) (by lia)
   $(⟨i,h⟩))
  let(m,hm,r):=gm;rw[F,F]at r;let pr:∀f,f=hA p->t.probe f (k7 knd k) (aJ t.mask (t.probeStart<|k7 knd k) n)=probe.go t (hA p) (k7 knd k) (10*turns t.mask) (aJ t.mask (t.probeStart<|k7 knd k) n):=λf e=>by rw[e];rfl
  rw[pr _ ?T]
  case T=>rfl
  let(rfl,l,B)||(i,l,hh,B):=r
  .simp[B];rw[abR I]at l ⊢;let(_,q)||((i,h,_),_):=D
   .$(dr q)
   rw[h]at l;lk
  rw[B];dsimp;let V:∃J,t.place[i]?=al J:=by
   let(W,C,O)||(C,_):=Br g.d
   .rw[C]at l;$$$l;$({_,O})
   rw[C]at l;lk
  let(J,hJ):=V;let hi:i<p.size:=by let:=(zR.1 hJ).1;rwa[g.sz,aaa]at this
  obtain⟨e,u⟩:∃e,p[i]?=al e:={_,ib hi};let(a,G,rfl,v):=H i e u;let L:G=k->Q (.there am) s:=λc=>by
   $$c;let(h,_)||(_,q):=D
   .exfalso;ext(z:n+m=N)
    .rw[z,h]at l;lk
    let(W,h',na):=hl (n+m) (by lia);rw[h']at l;$$$l;$(na ⟨a,u,v⟩)
   $q
  let no:G≠k->n+m<N:=λc=>by
   $(r4 λz=>?_);let z:n+m=N:=by lia
   rw[z]at l;let(h,_)||((W,h,a',X,Y),_):=D
   .rw[h]at l;$$$l
   rw[h]at l;$$$l;rw[u]at X;let ea:a=a':=by injection(congrArg agi<|Option.some.inj X)
   $$ea;$(c<|v.inj Y)
  split
  .$(bg<|QA M (λy hy=>?_) ?_)
   .let(C,h1,rfl):=ae.1 hy;let(j1,h2,h3):=kA (abA.1 h1 |> Array.mem_filter.1 |>.1 |> abA.2);let(a1,k1,O,Z):=H j1 C (by rw[<-gf,bt h2,h3]);$({a1,k1,by rw[O],Z})
   simp?[kB,if_false];rw[u];dsimp;$(bg<|pl<|agm P v M ?_);$(bg<|wa ho hd g.fits ?_);ext(c:G=k)
   .rw[decide_eq_true c];$(dr<|L c)
   rw[decide_eq_false c];simp?[aad,kB,if_false];rw[show t.sameMemory t.moves t.mask=al true by$$(aex);simp];dsimp;rw[if_pos ρ,l];dsimp;rw[u];dsimp;$(bg<|afN ?_);$(R (N-(n+(m+1))) (by let:=no c;$_) (n+(m+1)) _ b ρ (by let:=no c;$_) (by let:=no c;$_) ρ)
  rw[u];dsimp;$(bg<|pl<|agm P v M ?_);$(bg (wa ho hd g.fits ?_));ext(c:G=k)
  .rw[decide_eq_true c];$(dr<|L c)
  rw[decide_eq_false c];simp?[aad,kB,if_false];rw[show t.sameMemory t.moves t.mask=al true by$$(aex);simp];dsimp;rw[if_pos ρ,l];dsimp;rw[u];dsimp;$(bg<|afN ?_);$(R (N-(n+(m+1))) (by let:=no c;$_) (n+(m+1)) _ b ρ (by let:=no c;$_) (by let:=no c;$_) ρ)
end
end
section
open PySem.SetTable
section
variable{prog:hZ}{w:nL}{K:Type}[DecidableEq K]{knd:KeyKind prog w K}{A:ow}{E:cm->cA->Prop}{s:cA}
def sC(knd:KeyKind prog w K)(k:List K):Prop:=∃k0 r,k=k0::r/\∀v,knd.is k0 v=bi->∃x t,v=Ts x t
theorem Uq (c:pq knd s.heap b a)(tx:sC knd b)(h:Q false s):gj (hM prog w) A (hashByValue 8<|.ref a) Q E s:=by
 let f:=c.typeIs;let(o,items,n,ho,_,hd,d):=c;let(k0,r,rfl,z):=tx;$(bg<|aet f F.slot_tuple_hash.lookup ?_);$(bg<|acj ho hd ?_);apply bg;show gj _ _ (forIn items _ _) _ _ s;rw[<-afg];generalize items.toList=l at d;cases d with
 |cons e _=>let(x,t,rfl):=z _ e;rw[acI];$(bg<|bg<|dr<|dr<|dr<|dr h)
end
end
section
open PySem.SetTable
section
variable{prog:hZ}{w:nL}{K:Type}[DecidableEq K]{knd:KeyKind prog w K}{A:ow}{E:cm->cA->Prop}{s:cA}
def nC (x:pq knd h k a)(ho:h.get? S=al o)(hd:o.data=.set e ep t)(hs:L' S h h'):pq knd h' k a:=by
 let(f,items,n,b,g,c,i):=x;let d:a≠S:=by lia
 $({f,items,n,(hs.2 a d).trans b,g,c,i})
def iI(knd:KeyKind prog w K)(U:dn->Prop)(h:nk)(S:dn)(c:List (List K)):Prop:=∃o b ep t,h.get? S=al o/\o.ExactSet/\o.data=.set b ep t/\Good t (b.map (·.1))/\tF knd h b/\(∀k,(∃i,At knd h b k i)↔k∈c)/\b.size=c.length/\t.place.size*5<t.mask*3/\(∀e∈b.toList,∃a,e.2=.ref a/\U a)/\(c≠[]->t.plain=bn)
def Hm (a:Array b):(hE a.size).filterMap (λi=>a[i]?)=a.toList:=by
 apply afK;ext q;let(z1,c):=vH a (hE a.size) λi d=>hI.1 d;ext(e:q<a.size)
 .rw[c q q (aaZ e),gf]
 simp!
def XA (ho:s.heap.get? S=al o)(hd:o.data=.set b ep t)(g:Good t (b.map (·.1)))(hm:iV (ace n-1))(c:b.size<=ace n-1)(hz:ace n<=c6)(h:∀(es':Array (Int×cm)) (t':ti),es'.toList.Perm b.toList->Good t' (es'.map (·.1))->t'.mask=ace n-1->t'.plain=t.plain->Q () {s with heap:=s.heap.update S (ab2 es' t')}):gj (hM prog w) A (ahT S n) Q E s:=by
 refine bg<|wa ho hd g.fits ?_;dsimp;rw[if_neg (ah9.2 hz)];let(t',order,e,d,e2,e3,f,pm,g'):=Good.laid hm (hs:=b.map (·.1)) (by rw[aaa];$c);rw[aaa]at pm;let all:∀i∈order.toList,i<b.size:=λi j=>hI.1<|pm.mem_iff.1 j;let(k,m2):=vH b order.toList all;let l:t.relaid (b.map (·.1)) n=al (t',order):=e;let hsz:(order.filterMap λi=>b[i]?).size=b.size:=by rw[<-hS,acx,k,pm.length_eq,me]
 rw[l];$(bg<|afY (a:=(order.filterMap λi=>b[i]?,t')) ?_ ?_)
 .apply if_neg;rw[hsz];simp
 refine agH ho hd (h _ t' ?_ ?_ d f) (by rw[hsz];lia)
 .rw[acx];let m:=pm.filterMap λi=>b[i]?;$(m.trans<|adh<|Hm b)
 simp![Array.map_filterMap]
end
end
section
open PySem.SetTable
section
variable{prog:hZ}{w:nL}{K:Type}[DecidableEq K]{knd:KeyKind prog w K}{A:ow}{E:cm->cA->Prop}{s:cA}
theorem Good.plain (g:Good t hs)(p:Bool):Good {t with plain:=p} hs:=⟨g.m,g.d,g.sz,g.rise,g.le,g.nf,g.path⟩
def GG{h:nk}{S:dn}{o:zI}{a es':Array (Int×cm)}{ep:Nat}{t t':ti}(ho:h.get? S=al o)(hd:o.data=.set a ep t):(h.update S<|ab2 es' t').get? S=al {o with data:=.set es' (ep+1) t'}:=by let:=ua (ab2 es' t') ho (by rw[putSet_of es' t' hd];rfl);rwa[putSet_of es' t' hd]at this
def HY (g:tF knd h b):(∃i,At knd h b k i)↔∃e∈b.toList,∃a,e.2=.ref a/\pq knd h k a:=by
 constructor
 .ext⟨i,a,e,d⟩;rw[<-gf]at e;$({_,eH e,a,ρ,d})
 ext⟨e,m,a,f,d⟩;let(i,n,o):=kA m;let j:b[i]?=al e:=by rw[<-gf,bt n,o]
 let(l,k',p,c):=g i e j;$$p;let f:l=a:=by injection f
 $$f;let rfl:=d.inj c;$(⟨i,l,j,c⟩)
def iI.of (ho:h.get? S=al o)(C:o.ExactSet)(hd:o.data=.set f ep t)(g:tF knd h f)(r:∀k,(∃i,At knd h f k i)↔k∈q)(u:pq knd h k x)(F:f.size=q.length)(G:∀e∈f.toList,∃a,e.2=.ref a/\U a)(H:U x)(D:h'.get? S=al {o with data:=.set es' p t'})(hs:L' S h h')(pm:es'.toList.Perm ((k7 knd k,mA x)::f.toList))(g':Good t' (es'.map (·.1)))(nf:t'.place.size*5<t'.mask*3)(I:t'.plain=bn):iI knd U h' S (q++[k]):=by
 let l:tF knd h' es':=λi e c=>by
  rw[<-gf]at c;let rfl||z:=eW.1 (pm.mem_iff.1<|eH c)
  .$({x,k,ρ,nC u ho hd hs})
  let(j,v,y):=kA z;let(a,m,B,n):=g j e (by rw[<-gf,bt v,y]);$({a,m,B,nC n ho hd hs})
 $({_,es',p,t',D,C,ρ,g',l,λm=>?_,?_,nf,λe c=>?_,λ_=>I})
 .rw[HY l,eK,kn,<-r m,HY g];let back:∀{e:Int×cm}{a:dn},e∈f.toList->e.2=.ref a->pq knd h' m a->pq knd h m a:=λ{e a} c b d=>by
   let(j,v,y):=kA c;let(J,k1,B,n):=g j e (by rw[<-gf,bt v,y]);$$B;let b:J=a:=by injection b
   $$b;rw[d.inj (nC n ho hd hs)];$n
  constructor
  .ext⟨e,c,a,b,d⟩;let rfl||z:=eW.1 (pm.mem_iff.1 c)
   .right;let b:x=a:=by injection b
    $$b;$(d.inj<|nC u ho hd hs)
   $(ι {e,z,a,b,back z b d})
  ext (⟨e,c,a,b,d⟩|rfl)
  .$({e,pm.mem_iff.2<|fk _ c,a,b,nC d ho hd hs})
  $({_,pm.mem_iff.2 fm,x,ρ,nC u ho hd hs})
 .let:=pm.length_eq;simp at this;simp?[this,eR,F];rfl
 let rfl||z:=eW.1 (pm.mem_iff.1 c)
 .$(⟨x,ρ,H⟩)
 $(G e z)
end
end
section
open PySem.SetTable
section
variable{prog:hZ}{w:nL}{K:Type}[DecidableEq K]{knd:KeyKind prog w K}{A:ow}{E:cm->cA->Prop}{s:cA}
def V' (T:iI knd U s.heap S c)(D:pq knd s.heap k x)(hu:A.units<u2)(room:c.length<70)(V:U x)(tx:sC knd k)(h:∀b h',L' S s.heap h'->iI knd U h' S (if k∈c then c else c++[k])->Q b {s with heap:=h'}):gj (hM prog w) A (setAddHashed S (.ref x)<|k7 knd k) Q E s:=by
 let W:=T;let(o,f,ep,t,ho,I,hd,g,v,n,u,nf,X,hpl0):=T;$(pl<|bg<|wa ho hd g.fits ?_);dsimp;rw[show byScan (.ref x) f=bn from ρ];let(N,hN,hl,hq):=g.stop (k7 knd k) (At knd s.heap f k) (λi ⟨a,e,_⟩=>by rw[aff,e];rfl);let hN2:N<100000:=by
  let:turns t.mask<=142:=by delta turns;let e||e||e:=g.m<;>rw[e]<;>decide
  lia
 refine bg<|Mi ho hd g v D hu hN hl ?_ (N-0) 0 am 100000 ρ (nT _) ∅ ρ;let(F,no)||(i,F,Y):=hq
 .refine ι {F,?_};let P:k∉c:=λz=>by let(i,hi):=(n k).2 z;$(no i hi)
  rw[if_neg P]at h;$(bg<|wa ho hd g.fits ?_);let Z:t.place.size+1<=t.mask:=by lia
  let y:=g.put F (by simp!) Z;let YA:t.place.size=c.length:=by rw[g.sz,aaa,u]
  generalize (aJ t.mask (t.probeStart<|k7 knd k) N).j=j at *;rw[CG g.d]at y;rw[CG g.d];let em:∀p,(Wb f p (k7 knd k,mA x)).map (·.1)=Wb (f.map (·.1)) p (k7 knd k):=λp=>by apply Array.toList_inj.1;simp[abW]
  rw[<-em]at y;let q:=acf f (below t.place j) (k7 knd k,mA x);rw[adi]at q;let q:=q.trans<|aee _ _;let J:=xo f (below t.place j) (k7 knd k,mA x);let B:∀l:ti,Good l ((Wb f (below t.place j) (k7 knd k,mA x)).map (·.1))->l.mask=t.mask->l.plain=bn->gj (hM prog w) A (do
    storeSet S (Wb f (below t.place j) (k7 knd k,mA x)) l
    if(!false&&l.tooFull)=bi then do
     ahT S (grown<|f.size+1)
     pure true
    else pure true) Q E s:=λl G em2 L=>by
   let p2:l.place.size=c.length+1:=by rw[G.sz,aaa,J,u]
   let sl:(Wb f (below t.place j) (k7 knd k,mA x)).size<=sizeLine:=by rw[J,u];delta c6;lia
   generalize Wb f (below t.place j) (k7 knd k,mA x)=r at *;let C:=GG (es':=r) (t':=l) ho hd;let H:=sH s.heap S<|ab2 r l;$(bg<|agH ho hd ?_ sl);let full:l.tooFull=bd ((c.length+1)*5 ≥ l.mask*3):=by delta SetTable.tooFull afy;rw[G.d,p2];rfl
   split
   .let R:(c.length+1)*5 ≥ t.mask*3:=by simp!
    rw[YA]at nf;obtain⟨hm,hz⟩:(iV (ace (grown<|f.size+1)-1)/\(c.length+1)*5<(ace (grown<|f.size+1)-1)*3)/\ace (grown<|f.size+1)<=sizeLine:=by
     rw[u];let e||e||e:=g.m<;>rw[e]at nf R
     .let:c.length=4:=by lia
      rw[this];$({{τ<|ι ⋯,⋯},by delta c6;decide})
     .let:c.length=18:=by lia
      rw[this];$({{τ<|τ ⋯,⋯},by delta c6;decide})
     lia
    refine bg (XA C ρ G hm.1 (by lia) hz λes' t' M g' YB YC=>dr ?_);let YD:=GG (es':=es') (t':=t') C ρ;let O:=sH (s.heap.update S<|ab2 r l) S<|ab2 es' t';$(h true _ (H.trans O)<|iI.of ho I hd v n D u X V YD (H.trans O) (M.trans q) g' ?_<|YC.trans L);let:t'.place.size=c.length+1:=by rw[g'.sz,aaa];let:=M.length_eq;simp!
    rw[this,YB];$(hm.2)
   ext1 R;$(dr (h true _ H<|iI.of ho I hd v n D u X V C H q G ?_ L));simp!
  split
  .exact bg<|Uq D tx<|B _ (y.plain false) ρ ρ
  ext1 np;$(bg<|dr<|B _ y ρ<|zd _ ▸ np)
 refine τ {⟨i,F,Y⟩,?_};let P:k∈c:=(n k).1 ⟨i,Y⟩;rw[if_pos P]at h;$(dr<|h false s.heap (Heap.SameBut.refl S s.heap) W)
end
end
section
open PySem.SetTable
section
variable{prog:hZ}{w:nL}{K:Type}[DecidableEq K]{knd:KeyKind prog w K}{A:ow}{R:adL->cA->Prop}{I:dn}{fp wr:List dn}{G:Array acQ->Array acQ->Prop}{n:Nat}{Pr:Nat->cm->Prop}{St:Nat->cA->Prop}
def iI.moved (x:iI knd U h S l)(hs:∀o,h.get? S=al o->h'.get? S=al o)(d:∀k a,pq knd h k a->pq knd h' k a):iI knd U h' S l:=by
 let(o,p,ep,t,ho,m,hd,g,c,f,r):=x;$({o,p,ep,t,hs o ho,m,hd,g,λi e s=>?_,λk=>?_,r})
 .let(a,k,j,b):=c i e s;$({a,k,j,d _ _ b})
 rw[<-f k];constructor
 .ext⟨i,a,e,z⟩;let(u,k',j,b):=c i _ e;let v:a=u:=by injection j with _ q;injection q
  $$v;let rfl:=z.inj<|d _ _ b;$(⟨i,a,e,b⟩)
 ext⟨i,a,e,z⟩;$({i,a,e,d _ _ z})
def k8(a:List (List K))(v:List K):List (List K):=if v∈a then a else a++[v]
def gJ(val:Nat->List K)(i:Nat):List (List K):=((hE i).map val).foldl k8 []
def Ji(val:Nat->List K)(i:Nat):gJ val (i+1)=k8 (gJ val i) (val i):=by delta gJ;simp?[abH,fv,afJ];rfl
theorem G'(val:Nat->List K):∀{n:Nat},i<=n->(gJ val i).length<=(gJ val n).length
 |0,h=>by rw[afc.1 h];$(eT _)
 | n+1,h=>by
  let h||rfl:=Nat.lt_or_eq_of_le h
  .apply n5<|G' val<|rk h;rw[Ji];delta k8;split
   .exact eT _
   simp
  exact eT _
theorem Mc(W:WalksS prog w A.in1 I fp wr G n Pr St)(S:dn)(u:S∉fp)(val:Nat->List K)(h0:nk)(P:∀i v,Pr i v->∃a,v=.ref a/\U a/\sC knd (val i)/\pq knd h0 (val i) a)(y:A.units+1<u2)(Q:(gJ val n).length<70)(T:∀i s,St i s->∀k a,pq knd s.heap k a->a∉wr) :
  ∀(k i:Nat) (s:cA),n-i=k->i<=n->St i s->(∀k a,pq knd h0 k a->pq knd s.heap k a)->iI knd U s.heap S (gJ val i) ->
   (∀s',Moved (S::wr) G s s'->iI knd U s'.heap S (gJ val n)->R (.ok<|.ret .none) s') ->
   abu (hM prog w) A (.builtin "set.update.loop" {[.ref S,.ref I],[]}) R s:=by
 let hw:S∉wr:=λh=>u<|W.sub _ h;let B:∀b∈wr,b∈S::wr:=λb z=>fk _ z;let C:∀i s s',St i s->Moved wr G s s'->∀k a,pq knd s.heap k a->pq knd s'.heap k a:=λi s s' st hm k a x=>by let:=T i s st k a x;let(o,items,m,ho,r):=x;$({o,items,m,hm.heap _ _ this ho,r})
 ext k;induction k with
 |zero =>
  ext i s V X st c hs j;obtain rfl:i=n:=by lia
  apply vv Cs;$(bg (W.done s _ _ st λs' hm=>?_));$(dr (j s' (hm.mono B)<|hs.moved (λo e=>hm.heap S _ hw e)<|C _ _ _ st hm))
 |succ k Y =>
  ext i s V X st c hs j;let d:i<n:=⋯;apply vv Cs;rw[r6 qy _];$(bg (W.item i s _ _ d st λv s' Z D hm=>?_));let(x,rfl,ux,tx,E):=P i v Z;let l:=C _ _ _ st hm;let H:=l _ _<|c _ _ E;let g:=hs.moved (λo e=>hm.heap S _ hw e) l;$(bg<|pl ?_);$(pl<|bg<|wpAny_pyHash_tuple (by$$$$y) H ?_);$(V' g H (by$$$$y) (xr (G' val<|aaV d) Q) ux tx λb h' f J=>?_);let(oS,es,ep,t,L,_,M,_):=g;let N:iI knd U h' S (gJ val<|i+1):=by simp?[Ji];$J
  refine dr {aaJ qy _,Y (i+1) _ ⋯ d (W.frame _ s' _ _ D (aaW _ _) λb z o e=>?_) (λk a z=>nC (l _ _<|c _ _ z) L M f) N λO p q=>?_}
  .rwa[f.2 b (λh:b=S=>u<|h ▸ z)]
  refine j O (Moved.trans W.gtrans ((hm.mono B).then_heap (aaW _ _) λb o z e=>?_) p) q;rwa[f.2 b (λh:b=S=>z<|h ▸ fm)]
end
end
section
open PySem.SetTable
section
variable{P:hZ}{w:nL}{K:Type}[DecidableEq K]{knd:KeyKind P w K}{A:ow}{E:cm->cA->Prop}{s:cA}
def Tu (hh:A.handled=am)(hu:A.units+4<u2)(hl:s.heap.IsList l items)(t:∀i v,items[i]?=al v->∃a,v=.ref a/\U a/\sC knd (val i)/\pq knd s.heap (val i) a)(u:(gJ val items.size).length<70)(h:∀(h':nk) (tk:Nat),iI knd U h' s.heap.objs.size (gJ val items.size)->(∀b o,b<s.heap.objs.size->s.heap.get? b=al o->h'.get? b=al o)->Q (.ref s.heap.objs.size) {s with heap:=h',toks:=tk}) :
  gj (hM P w) A (call (.type "set") [.ref l]) Q E s:=by
 refine JD (A:=A) (items:=items) (Fin:=λh'=>iI knd U h' s.heap.objs.size<|gJ val items.size) hl (λled R I y B f n g p hit k=>?_) h;let q:A.in1.in1.in1.handled=am:=by simp[hh]
 let up:∀k a,pq knd s.heap k a->pq knd y k a:=λk a ⟨o,it,m,e,r⟩=>{o,it,m,by rw[B];$(eu _<|eu _ e),r};$(Mc (knd:=knd) ((Walks.list q _ l f items).toS) s.heap.objs.size n val s.heap t (by simp;lia) u (λi s1 st k a x=>?C) (items.size-0) 0 _ ⋯ (nT _) ⟨hit,p⟩ up ?D k)
 case C=>let(oi,hoi,ri):=st.1;let(o,it,m,e,c,d,_):=x;grind
 exact{_,#[],0,_,g,⟨ρ,ρ,ρ⟩,ρ,(by rw[Array.map_empty];$(Good.fresh 0 0 led)),λi e j=>by simp at j,λk=>{λ⟨i,a,e,_⟩=>by simp at e,λz=>by simp[gJ]at z},ρ,(by show 0*5<7*3;decide),λe j=>by simp at j,λz=>absurd ρ z}
end
end
section
open PySem.SetTable
def rF:PySem.Slot "set_iterator" "__next__" "set_iterator.__next__" :=
 .of (owner:="set_iterator") (n:="__next__") (by rw[ahr,afQ];kernel_rfl) (by decide +kernel) (by decide +kernel) (by decide +kernel) (by first|$(ι (by decide +kernel))|$(τ (by decide +kernel))) (by rw[ahX];kernel_rfl)
def Gc:ah0 table "set_iterator.__next__"=al ZI.«set_iterator.__next__»:=ag7 (by kernel_rfl)
def MY:Manifest.owners.lookup (String.ofList ['r','o','t','a','r','e','t','i','_','t','e','s'].reverse)=al Manifest.sig_set_iterator:=by kernel_rfl
def FY(a):argsOk "set_iterator.__next__" {[a],[]}:=by delta argsOk;kernel_rfl
def RB:ah0 table "set.__iter__"=al ZI.«frozenset.__iter__»:=entryFor_alias (id':="frozenset.__iter__") (by kernel_rfl) ρ (by decide +kernel) (by kernel_rfl)
theorem yo:∀{l:List a}{i:Nat}(h:i<l.length),(l[i]::l.eraseIdx i).Perm l
 |x::l,0,h=>.refl _
 |x::l,i+1,h=>(afe _ _ _).trans ((yo<|Nat.lt_of_succ_lt_succ h).cons x)
section
variable{prog:hZ}{w:nL}{A:ow}{E:cm->cA->Prop}{s:cA}
def wp_choose (b:n≠0)(h:∀i d,i<n->Q i {s with drawn:=d}):gj (hM prog w) A (choose a n) Q E s:=λΓ p _=>{b,h _ _<|aat _<|Nat.pos_of_ne_zero b}
theorem Rq (n):∀(xs:List b) (s:cA) {Q:List b->cA->Prop},xs.length<=n->(∀ys d,ys.Perm xs->Q ys {s with drawn:=d})->gj (hM prog w) A (drawOrder n xs) Q E s:=by
 induction n with
 |zero=>$(λxs s Q hl h=>dr (h [] s.drawn (by rw[aac.1 (afc.1 hl)])))
 |succ n c =>
  ext xs s Q hl h;cases xs with
  |nil=>$(dr (h [] s.drawn .nil))
  |cons x xs=>$(bg (wp_choose (Nat.succ_ne_zero _) λi d a=>?_));rw[bt a];refine bg (c _ _ (by rw[aeZ,if_pos a];$(Nat.le_of_succ_le_succ hl)) λys d' pm=>dr<|h _ d'<|(pm.cons _).trans (yo a))
theorem Hh (next):∀(n k:Nat) (xs:List a) (out:Array a),xs.length<=n->(pickOrder.go next n k xs out).toList.Perm (out.toList++xs)
 |0,k,[],out,_=>by simp?[nS];$(.refl _)
 |n+1,k,[],out,_=>by simp?[nS];$(.refl _)
 |n+1,k,x::xs,out,hl=>by let b:next k%(x::xs).length<(x::xs).length:=aat _<|abg _;dsimp[pickOrder.go];rw[bt b];$((Hh next n _ _ _ (by simp![aeZ])).trans ?_);rw[adi,pw];$((yo b).append_left _)
def mr(h:nk)(I S:dn)(f:cm)(i n ep:Nat):Prop:=∃o,h.get? I=al o/\o.cls=.type "set_iterator"/\o.data=.fields #[f,.int i 0,.ref S,.int n 0,.int ep 0]
def Way(w:nL)(h:nk)(S:dn)(a:Array (Int×cm))(ep:Nat)(vs:List cm)(f:cm):Prop :=
 (w.params.followText "set-order"=bi/\f=.int 0 0/\vs=(ag5 (w.params.setOrder S ep) a).toList.map (·.2)) \/
 (∃T o n,∃b:List Nat,f=.ref T/\h.get? T=al o/\o.data=.seq (b.map λi:Nat=>aa9 i).toArray n/\b.map (λp=>(a[p]?).map (·.2))=vs.map al)
def mr.ty (x:mr s.heap I S f i n ep):s.TypeIs (.ref I) "set_iterator":=let⟨o,ho,a,_⟩:=x;⟨o,ho,a⟩
def Er (ho:s.heap.get? S=al o)(hd:o.data=.set a ep t)(b:t.fits a.size=bi)(c:w.params.followText "set-order"=bi)(q:Q (((ag5 (w.params.setOrder S ep) a)[i]?).map λe=>(e.2,0)) s):gj (hM prog w) A (setNext S 0 i ep) Q E s:=by let ask:∀{Q:Bool->cA->Prop},Q true s->gj (hM prog w) A setsByText Q E s:=λq=>bg<|aei<|dr (by rw[show(adK ⟨(hM prog w).prog,(hM prog w).w.params⟩).followText "set-order"=bi from c];$q);$(bg<|wa ho hd b ?_);$(bg<|ask ?_);rw[if_pos ρ,if_neg ⋯];$(bg ?_);$(bg<|wa ho hd b<|bg<|ask ?_);$(bg<|aei<|dr<|dr q)
def UB (hit:mr s.heap I S f i a.size ep)(ho:s.heap.get? S=al o)(hd:o.data=.set a ep t)(p:t.fits a.size=bi)(F:Way w s.heap S a ep vs f)(g:vs[i]?=al v)(q:∀h',mr h' I S f (i+1) a.size ep->L' I s.heap h'->Q (al v) {s with heap:=h'}):gj (hM prog w) A (aa2<|.ref I) Q E s:=by
 let ty:=hit.ty;let(x,c,r,b):=id hit;$$(aa2);$(bg<|adD<|L1 (name:=ia "__next__") ty rF<|se rF ty Gc ?z<|FY _);$$(ZI.«set_iterator.__next__»);$(bg<|dr<|bg<|ac' c b ?_);dsimp;$(bg<|adt ho hd p ?_);rw[if_neg ⋯];let nx:∀{h:nk}{u:zI},h.get? I=al u->u.cls=.type "set_iterator"->u.data=.fields #[f,.int i 0,.ref S,.int a.size 0,.int ep 0]->mr (h.update I (abB (·.setIfInBounds 1 (aa9<|(i:Int)+1)))) I S f (i+1) a.size ep:=λd G y=>{_,ua _ d<|abq<|Hz y _,(adx ..).trans G,by rw[Hz y];simp[aa9]};let(H,rfl,rfl)||(T,oT,n,j,rfl,J,B,k):=F
 .$(bg<|Er ho hd p H ?_);rw[dk,gf]at g;let(e,d,rfl):=ft.1 g;simp?[aci,d];$(bg (aaq c b ⋯ ?_));let C:=ua (abB (·.setIfInBounds 0 (aa9 ((0:Nat):Int)))) c<|abq<|Hz b _;let D:=(Hz b (·.setIfInBounds 0 (aa9 ((0:Nat):Int)))).trans (show _=ahj #[abQ 0 0,.int i 0,.ref S,.int a.size 0,.int ep 0]from by simp[aa9]);let K:=sH s.heap I (abB (·.setIfInBounds 0 (aa9 ((0:Nat):Int))));let L:=nx C ((adx ..).trans r) D;refine bg<|aaq C D ⋯<|dr ⟨_,ρ,dr<|q _ L<|K.trans<|sH ..⟩
 let l:i<j.length:=by let:=congrArg List.length k;simp?[a8,a8]at this;rw[this];$((cn.1 g).1)
 let M:(a[j[i]]?).map (·.2)=al v:=by let:=congrArg (·[i]?) k;simpa[dk,bt l,g]using this
 let(e,d,rfl):=ft.1 M;$(bg<|acj J B ?_);dsimp;rw[show agd (i:Int)=i from ρ,acN,dk,bt l];$(bg (m:=setNextDrawn S _ _) ?_);dsimp[setNextDrawn];$(bg<|wa ho hd p ?_);dsimp;rw[if_neg ⋯,show agd (j[i]:Int)=j[i]from ρ,d];$(dr<|bg<|aaq c b ⋯<|dr ⟨_,ρ,dr<|q _ (nx c r b)<|sH ..⟩)
def MM (hh:A.handled=am)(hit:mr s.heap I S f c.size c.size ep)(ho:s.heap.get? S=al o)(hd:o.data=.set c ep t)(j:t.fits c.size=bi)(r:Way w s.heap S c ep vs f)(i:vs.length=c.size)(q:∀h',aeV I s.heap h'->Q am {s with heap:=h'}):gj (hM prog w) A (aa2<|.ref I) Q E s:=by
 let ty:=hit.ty;let(x,g,x2,d):=id hit;let stop:∀(h:nk) (R:Fin->cA->Prop),aeV I s.heap h->gj (hM prog w) A.in1 (newExc (.type "StopIteration") [] >>= λe=>ahV e) R (λe s'=>gj (hM prog w) A (isInstance e (.type "StopIteration") >>= λb=>if b=bi then pure am else throw e) Q E s') {s with heap:=h}:=λh R u=>by simp?[newExc,newTuple];$(bg<|bg<|rp (bg (m:=ahZ _ _)<|afY (a:=ql) (by rfl)<|rp ?B (by size_fits)) (by size_fits));dsimp[ahV];$(bg<|ah' ?F);rw[show A.in1.handled=am from hh];$(bg<|dr<|wpAny_throw ?G);$(bg<|aeh (T:="StopIteration") (b:=true) ⟨_,gi _ ρ,ρ⟩ ahY<|dr<|q _<|(u.push _).push _)
 $$(aa2);$(bg<|adD<|L1 (name:=ia "__next__") ty rF<|se rF ty Gc ?z<|FY _);$$(ZI.«set_iterator.__next__»);$(bg<|dr<|bg<|ac' g d ?_);dsimp;$(bg<|adt ho hd j ?_);rw[if_neg ⋯];let(v,rfl,rfl)||(T,oT,n,y,rfl,C,k,l):=r
 .$(bg<|Er ho hd j v ?_);simp?[a8,hS]at i;simp?[aci,acy<|abj i];$(bg<|aaq g d ⋯<|stop _ _ (sH ..).extBut)
 let p:y.length=c.size:=by let:=congrArg List.length l;simp?[a8,a8,i]at this;$this
 $(bg<|acj C k ?_);dsimp;rw[show agd (c.size:Int)=c.size from ρ,acN,dk,aaA<|abj p];$(bg<|aaq g d ⋯ ?_);let D:=ua (abB (·.setIfInBounds 0 (aa9 0))) g<|abq<|Hz d _;let B:=Hz d (·.setIfInBounds 0 (aa9 0));$(bg<|aaq D B ⋯<|stop _ _ ((sH ..).trans (sH ..)).extBut)
theorem R4 (ho:s.heap.get? S=al o)(k:o.ExactSet)(hd:o.data=.set a ep t)(h:t.fits a.size=bi)(l:1<a.size)(hz:a.size<=c6)(j:t.plain=bn)(q:∀I h' d f vs,s.heap.objs.size<=I->(∀b o,s.heap.get? b=al o->h'.get? b=al o)->mr h' I S f 0 a.size ep->Way w h' S a ep vs f->vs.Perm (a.toList.map (·.2))->(∀T,f=.ref T->s.heap.objs.size<=T/\T≠I)->Q (.ref I) {s with heap:=h',drawn:=d}):gj (hM prog w) A (afs<|.ref S) Q E s:=by
 let ty:s.TypeIs (.ref S) "set":=⟨o,ho,k.1⟩;$(agJ ty agQ<|se agQ ty RB ?z<|F.args_set_iter_1 _);unfold ZI.«frozenset.__iter__» af6 slotArgs;simp?[List.isEmpty_nil,ac1,kB,↓reduceIte,bind_assoc,aaw,bne_self_eq_false];dsimp[af8,af7];$(bg<|dr ?_);try dsimp
 $(bg<|dr ?_);$(bg<|bg<|adt ho hd h<|dr ?_);delta setDrawn setsByText;$(bg<|bg<|wa ho hd h<|bg<|bg<|aei<|dr<|dr ?_);ext(g:w.params.followText "set-order"=bi)
 .rw[show(adK {(hM prog w).prog,(hM prog w).w.params}).followText "set-order"=bi from g];$(abZ (λz=>by simp!) λ_=>?_);$(bg<|dr<|bg<|agI ho hd h<|bg<|rp<|dr ⟨_,ρ,"set_iterator",_,⟨_,gi _ ρ,ρ⟩,rF.lookup,?_⟩);$(q _ _ s.drawn (.int 0 0) ((ag5 (w.params.setOrder S ep) a).toList.map (·.2)) (eT _) (λb o e=>eu _ e) {_,gi _ ρ,ρ,by simp[aa9]} (ι ⟨g,ρ,ρ⟩) ?_ λT e=>nomatch e)
  let:=Hh (w.params.setOrder S ep) a.size 0 a.toList #[] (abj hS);$(this.map _)
 let g:w.params.followText "set-order"=bn:=acd.2 g;rw[show(adK {(hM prog w).prog,(hM prog w).w.params}).followText "set-order"=bn from g];$(abZ (λ_=>?_) λz=>absurd (show(!false&&(!t.plain&&bd (a.size>1)))=bi from by rw[j];$$$$l) z);$(bg (Rq _ _ _ (abj me) λc d pm=>?_));let hl:c.length=a.size:=by simp?[pm.length_eq,me]
 $(bg<|ahS ?_ (by simp!));let k1:∀b o,s.heap.get? b=al o->(s.heap.push {cls:=.type "tuple",data:=.seq (c.map λi:Nat=>aa9 i).toArray}).get? b=al o:=λb o e=>eu _ e;$(bg<|agI (k1 _ _ ho) hd h<|bg<|rp<|dr ⟨_,ρ,"set_iterator",_,⟨_,gi _ ρ,ρ⟩,rF.lookup,?_⟩);let all:∀p∈c,p<a.size:=λp j=>hI.1<|pm.mem_iff.1 j;$(q _ _ d (.ref s.heap.objs.size) (c.filterMap λp=>(a[p]?).map (·.2)) ⋯ (λb o e=>eu _<|k1 b o e) {_,gi _ ρ,ρ,by simp[aa9]} (τ {_,_,_,c,ρ,eu _<|gi _ ρ,ρ,?_}) ?_ λT e=>by simp!)
 .clear pm hl k1;induction c with
  |nil=>rfl
  |cons p c m=>let:=all p fm;rw[hH,m λx n=>all x<|fk _ n,aa1,ib this];rfl
 $((pm.filterMap _).trans (adh ?_));simp?[<-Hm a,List.map_filterMap]
end
end
section
open PyProof.V PySem.SetTable PySem.W PySem.Calls
section
variable{prog:hZ}{w:nL}{A:ow}{E:cm->cA->Prop}{s:cA}
def Way.at (x:Way w h S a ep vs f)(k:∀T,f=.ref T->∀o,h.get? T=al o->h'.get? T=al o):Way w h' S a ep vs f:=by
 let x||(T,o,n,b,e,c,r):=x
 .$(ι x)
 $(τ {T,o,n,b,e,k T e o c,r})
def U6 (d:s.TypeIs (.ref r) "set")(h:Q false s):gj (hM prog w) A (acY<|.ref r) Q E s:=by
 $(bg<|aet d PySem.F.slot_set_len.lookup ?_);generalize c:("set.__len__":String)=e
 wp_delta
 $$c;$(bg<|aeh (b:=true) d (by rw[ahX];kernel_rfl) ?_);$(abZ (λa=>absurd a ⋯)<|λ_=>?_);$(abZ (λ_=>?_)<|λa=>absurd (by decide +kernel) a);$(bg<|ab8 d ?_);$(dr h)
theorem Yn (hh:A.handled=am)(B:vs.length=a.size)(hz:a.size<=c6)(C:Way w h0 S a ep vs f)(ho:h0.get? S=al o)(hd:o.data=.set a ep t)(G:t.fits a.size=bi)(p:S≠D)(r:S≠I)(d:D≠I)(j:∀T,f=.ref T->T≠D/\T≠I) :
  ∀(k i:Nat) (s:cA) (c:Nat),a.size-i=k->i<=a.size->(∀b o,b≠D->b≠I->h0.get? b=al o->s.heap.get? b=al o)->mr s.heap I S f i a.size ep->s.heap.get? D=al {cls:=.type "list",dict:=am,data:=.seq (vs.take i).toArray c,slots:=#[]} ->
   (∀h' M,(∀b o,b≠D->b≠I->h0.get? b=al o->h'.get? b=al o)->h'.get? D=al {cls:=.type "list",dict:=am,data:=.seq vs.toArray M,slots:=#[]}->R (.ok<|.ret n) {s with heap:=h'}) ->
   abu (hM prog w) A (.builtin "list.extend.loop" {[.ref D,.ref I,n],[]}) R s:=by
 ext k;induction k with
 |zero =>
  ext i s c N O kp it l z;obtain rfl:i=a.size:=by lia
  apply vv adQ;$(bg (MM hh it (kp _ _ p r ho) hd G (C.at λT e o q=>kp _ _ (j T e).1 (j T e).2 q) B λh' H=>?_));rw[<-B,lq]at l;$(dr (z h' c (λb o m g e=>H b o g<|kp b o m g e)<|H _ _ d l))
 |succ k P =>
  ext i s c N O kp it l z;let v:i<vs.length:=by lia
  apply vv adQ;$(bg (UB it (kp _ _ p r ho) hd G (C.at λT e o q=>kp _ _ (j T e).1 (j T e).2 q) (bt v) λh' J K=>?_));let x:=(K.2 _ d).trans l;let sz:(vs.take i).toArray.size=i:=by rw[gs,iW];lia
  obtain⟨h,y⟩:∃h,(h'.update D (ZF (·.push vs[i]))).get? D=al {cls:=.type "list",dict:=am,data:=.seq (vs.take<|i+1).toArray h,slots:=#[]}:=⟨_,by
   rw[show(vs.take<|i+1).toArray=(vs.take i).toArray.push vs[i]from by simp?[<-List.take_append_getElem v,List.push_toArray]]
   exact ua (ZF (·.push vs[i])) x ρ⟩
  refine bg<|aes x ρ (dr ⟨aaJ Rr _,P (i+1) _ h (by lia) (by lia) (λb o m g e=>?_) ?_ y λQ h k2 L=>?_⟩) (by rw[sz];lia) (by show((vs.take i).toArray.push vs[i]).size<=c6+1;rw[afX,sz];lia)
  .exact (sW _ _<|Ne.symm m).trans ((K.2 b g).trans (kp b o m g e))
  .let(u,U,V):=J;$({u,(sW _ _ d).trans U,V})
  exact z Q h k2 L
def OC (hh:A.handled=am)(ho:s.heap.get? S=al o)(j:o.ExactSet)(hd:o.data=.set g ep t)(z:t.fits g.size=bi)(N:1<g.size)(hz:g.size<=c6)(O:t.plain=bn)(q:∀h' d vs,(∀b o,s.heap.get? b=al o->h'.get? b=al o)->vs.Perm (g.toList.map (·.2))->Q vs {s with heap:=h',drawn:=d}):gj (hM prog w) A (collect<|.ref S) Q E s:=by
 $$(collect);$(bg<|ahR<|vv entry_proto_collect' ?_);rw[r6 PySem.F.plain_proto_collect _];show gj _ A.in1 (newList [] >>= λl=>again<|.builtin "list.__iadd__" ⟨[l,.ref S],[]⟩) _ _ s;$(bg<|rp ?_);$(dr {aaJ aea _,vv entry_list_iadd' ?_});rw[r6 aea _];let B:=fj ho;let P:(s.heap.push {cls:=.type "list",data:=.seq ([]:List cm).toArray}).get? s.heap.objs.size=al {cls:=.type "list",data:=.seq #[]}:=gi _ ρ;let k:(s.heap.push {cls:=.type "list",data:=.seq ([]:List cm).toArray}).get? S=al o:=eu _ ho;let R:∀b o,s.heap.get? b=al o->(s.heap.push {cls:=.type "list",data:=.seq ([]:List cm).toArray}).get? b=al o:=λb o e=>eu _ e;let sz:(s.heap.push {cls:=.type "list",data:=.seq ([]:List cm).toArray}).objs.size=s.heap.objs.size+1:=agz ..;generalize s.heap.push {cls:=.type "list",data:=.seq ([]:List cm).toArray}=C at *;show gj _ A.in1 (acZ (.ref s.heap.objs.size) (.ref S)<|.ref s.heap.objs.size) _ _ _;dsimp[acZ];$(bg<|ab8 (T:="set") ⟨o,k,j.1⟩ ?_);let y:s.heap.objs.size≠S:=abh B;let U:adl (.ref s.heap.objs.size) (.ref S)=bn:=by simp[adl,y]
 simp?[U,show(abl "set" == abl "list")=bn from by decide,show(abl "set" == abl "tuple")=bn from by decide,Bool.or_false,kB,if_false];$(bg (R4 (s:={s with heap:=C}) k j hd z N hz O λI h' d f vs D kp it V pm G=>?_));let D:s.heap.objs.size+1<=I:=sz ▸ D;let H:=kp _ _ k;let W:vs.length=g.size:=by simp?[pm.length_eq,a8,hS]
 let J:∀T,f=.ref T->T≠s.heap.objs.size/\T≠I:=λT e=>{by let q:C.objs.size<=T:=(G T e).1;lia,(G T e).2};let key:∀(hA:nk) (c:Nat),(∀b o,b≠s.heap.objs.size->h'.get? b=al o->hA.get? b=al o)->hA.get? s.heap.objs.size=al {cls:=.type "list",dict:=am,data:=.seq #[] c,slots:=#[]}->abu (hM prog w) A (.builtin "list.extend.loop" {[.ref s.heap.objs.size,.ref I,.ref s.heap.objs.size],[]}) (λr s'=>∃h m,r=.ok (.ret<|.ref s.heap.objs.size)/\s'={s with heap:=h,drawn:=d}/\(∀b o,s.heap.get? b=al o->h.get? b=al o)/\h.get? s.heap.objs.size=al {cls:=.type "list",dict:=am,data:=.seq vs.toArray m,slots:=#[]}) {s with heap:=hA,drawn:=d}:=λhA c K L=>by let(u,X,Y):=it;$(Yn (A:=A) (h0:=h') (S:=S) (I:=I) hh W hz V H hd z y.symm (by lia) (by lia) J g.size 0 _ c (by lia) (nT _) (λb o Z b2 e=>K b o Z e) {u,K _ _ (by lia) X,Y} L λh m n a=>{h,m,ρ,ρ,λb o e=>?_,a});let:=fj e;$(n b o (by lia) (by lia)<|kp b o<|R b o e)
 let p:=kp _ _ P;$(bg<|pl<|U6 ⟨o,H,j.1⟩ ?_);$(abZ (λ_=>?_)<|λ_=>dr {aaJ Rr _,aaC (key h' 0 (λb o _ e=>e) p) λr s' x=>?_})
 .$(bg<|wpAny_rule ?_);$(bg ?_);show gj _ _ (ag2 s.heap.objs.size (·.push .none) >>= λ_=>ag2 s.heap.objs.size (·.pop)) _ _ _;$(bg<|aes p ρ ?_);let i:=ua (ZF (·.push ql)) p ρ;$(aes (hz:=by seq_fits) i ρ ?_);let v:=ua (ZF (·.pop)) i ρ;$(dr {aaJ Rr _,aaC (key _ _ (λb o M e=>(sW _ _<|Ne.symm M).trans ((sW _ _<|Ne.symm M).trans e)) v) λr s' x=>?_});let(h,m,rfl,rfl,n,a):=x;show gj _ A (load s.heap.objs.size >>= _) _ _ _;$(bg<|agl a<|dr<|q _ d vs n pm)
 let(h,m,rfl,rfl,n,a):=x;show gj _ A (load s.heap.objs.size >>= _) _ _ _;$(bg<|agl a<|dr<|q _ d vs n pm)
end
end
section
variable{X:Cx}{pos:u1}
theorem IP:∀{a:List dn}{us:List cm},aO (a.map V.ref) us->us=a.map mA
 |[],us,h=>by$$$h;rfl
 | C::a,us,h=>by
  cases h with
  |cons r h=>rw[IP h];let rfl:=r;rfl
theorem Rv:bN X (.builtin "isinstance") (λxs H Q=>∃(C a p:dn) (c:List dn) (b:Bool),xs=[.ref a,.ref p]/\H p=al (.U<|c.map V.ref)/\H a=al (excAt a<|.ref C)/\lF X.K C/\afx X.K (.ref C) (c.map mA)=al b/\Q (.bl b) H):=by ext pins s σ H xs us Q I r h;let(C,a,p,c,b,rfl,d,f,k,e,q):=h;let(xv,cv,rfl,g,i):=r.two;$$g;$$i;let(j,_,_):=(I.ao a _ f);let(_,its,l,o,m,t,n,u):=(I.ao p _ d);let rfl:=IP l;let(c0,d0,da,sl):=o;$$t;$$u;$(W.kia_tup (Jv k abN.ga) I.fY j m e (λz=>nomatch z) λtk=>{.bl _,H,I.tok _,ρ,q})
def vP:List Dat->Option Res
 |[.L ds]=>(dS ds).bind λa=>if a.length<64 then al (.O<|.L<|(aD a).map .str)else am
 |_=>am
theorem Mp{e:hF}{fa:AF}{p:u1}(a:Gl X "sorted")(hm:X.mg "sorted"=am)(b:bD X e [])(c:DA X [e] fa):DE X (.Call (.Name "sorted" p) [e] [] pos) (bT vP fa) :=
 iu Hb (by
   ext H0 ps Z σ H b vs ds o Q a S r k;delta vP at a;$$$$$a
   .let(c,d,a):=oA a;$$$$$a
    .ext1 hz;$$$$$$a;let(v,vr,rfl,(p,ws,rfl,e,rs),f):=r;$$f;let g:=kL d rs;$$g;$({p,c,ρ,Rd.mono S.sub e,hz,λl hl=>?_});$(k (.ref l) _ b (S.made hl) (aj.refl _) {l,ρ,{_,a9,mC _,S.dv hl},(S.bJ hl).2,(S.bJ hl).1,S.dM hl})
    $(nO a)
   $(nO a)) a hm (by decide +kernel) c ⋯ ⋯ b rfl
def sf:List Dat->Option Res
 |[.cN a]=>if a.length<64 then al (.O (.L ((aD (a.map (·.1))).map .str)))else am
 |_=>am
structure Cz (x:eS):Prop where
 mark:True
theorem Q2{x:eS}{fa:AF}{p a:u1}(ht:Cz x)(b:X.ex=[])(c:X.calm=bi)(d:Gl X "sorted")(hm:X.mg "sorted"=am)(e:km [.Name x a] X.env=(false,eval (.Name x a) X.env)::km [] X.env)(f:DA X [.Name x a] fa):DE X (.Call (.Name "sorted" p) [.Name x a] [] pos) (bT sf fa):=(λa b c hm d f=>
  iu (yH a b) (by
    ext H0 ps Z σ H d vs ds o Q a S r k;delta sf at a;$$$$$a
    .ext1 e;$$$$$a
     .ext1 hz;$$$$$$a;let(v,vr,rfl,(p,ob,kvs,rfl,f,b),g):=r;$$g;$({p,kvs,e.map (·.1),ρ,τ {ob,S.sub _ _ f},tU b,by rw[bO.length b];$hz,λss' pm c l hl=>?_});rw[ui pm c];$(k (.ref l) _ d (S.made hl) (aj.refl _) {l,ρ,{_,a9,mC _,S.dv hl},(S.bJ hl).2,(S.bJ hl).1,S.dM hl})
     $(nO a)
    $(nO a)) c hm (by decide +kernel) f ⋯ ⋯ d ρ) b c d hm e f
structure B9 (x:eS):Prop where
 mark:True
def Sx (ht:B9 x)(b:X.ex=[])(c:Gl X "sorted")(hm:X.mg "sorted"=am)(d:km [.Name x a] X.env=(false,eval (.Name x a) X.env)::km [] X.env)(e:DA X [.Name x a] fa):DE X (.Call (.Name "sorted" p) [.Name x a] [] pos) (bT nz fa):=xK b c hm d e
end
theorem HG [DecidableEq c]:∀{l m:List c},l.Nodup->(∀x∈l,x∈m)->m.length<=l.length->l.Perm m
 |[],m,_,_,h=>by rw[aac.1 (afc.1 h)]
 |a::l,m,nd,hs,h=>by let f:=hs a fm;let b:=qo.1 nd;let g:=HG b.2 (λx d=>(aeY λ(e:x=a)=>b.1<|e ▸ d).2 (hs x<|fk _ d)) (by simp!);$((g.cons a).trans (List.perm_cons_erase f).symm)
section
variable{K:Type}[DecidableEq K]
theorem sA:∀(l a:List (List K)),a.Nodup->(l.foldl k8 a).Nodup/\∀k,k∈l.foldl k8 a↔k∈a\/k∈l
 |[],a,nd=>{nd,λk=>by simp}
 | x::l,a,nd=>by
  simp?[abI];let h:(k8 a x).Nodup/\∀k,k∈k8 a x↔k∈a\/k=x:=by$$(k8);split;simp!;ext1 hx;$({ka.2 {nd,⋯,λp hp q hq e=>by simp!},λk=>by simp})
  let(h1,h2):=sA l (k8 a x) h.1;simp![or_assoc]
end
section
variable{X:Cx}{pins:List (dn×zI)}{σ:St}{H:Hp}{s:cA}{pos:u1}{prog:hZ}{w:nL}{d:dn}{es:Array abk}{ep:Nat}{apos:u1}{P:hZ}{K:f'}{mg:eS->Option cm}{base:nk}{Hi Hi1:Hp}
def Zs(K:f')(H:Hp)(zs:List (dn×List eS)):Prop:=∀z∈zs,z.2≠[]/\bf K H z.1 (z.2.map V.str)
def Zs.txt{K:f'}{zs:List (dn×List eS)}(h:Zs K H zs):nH K H (zs.map (V.ref ·.1)) (zs.map (·.2)) :=
 {by rw[a8,a8],λi f e=>by rw[dk]at e;let(z,a,rfl):=ft.1 e;let(h0,b):=h z<|eH a;$({h0,z.1,by rw[dk,a];rfl,b})}
def vm(vs:List V)(fs:List (List eS))(zs:List (dn×List eS)):Prop:=∀z∈zs,∃i:Nat,fs[i]?=al z.2/\vs[i]?=al (V.ref z.1)
theorem vm.zs{K:f'}{vs:List V}{fs:List (List eS)}{zs:List (dn×List eS)}(h:vm vs fs zs)(t:nH K H vs fs):Zs K H zs:=λz hz=>by let(i,b,e2):=h z hz;let(h0,a,e3,sq):=t.2 i _ b;simp!
theorem Gq{vs:List V}{fs:List (List eS)}:∀l:List cm,(∀e∈l,∃a,e=.ref a/\∃(i:Nat) (f:List eS),fs[i]?=al f/\vs[i]?=al (V.ref a))->∃zs:List (dn×List eS),l=zs.map (mA ·.1)/\vm vs fs zs
 |[],_=>{[],ρ,λz hz=>by simp at hz}
 | e::l,h=>by
  let(a,rfl,i,f,b,c):=h e fm;let(zs,rfl,t):=Gq l λe g=>h e<|fk _ g;$({(a,f)::zs,ρ,λz hz=>?_});let rfl||hz:=eW.1 hz
  .$(⟨i,b,c⟩)
  $(t z hz)
def dR(f:List eS):List Key:=f.map uy
def VN (h:dR f=dR g):f=g:=(List.map_inj_right λa b e=>by injection e).1 h
def CP(I:Inv X pins σ H s)(c:bf X.K H a (f.map V.str)):pq (cZ X.prog X.w) s.heap (dR f) a:=by
 let(us,b,(o,ho,e,n,hd),_):=I.tuple c;$({o,us.toArray,n,ho,e,hd,?_});let g:(f.map V.str)=(dR f).map kV:=by$$(dR);rw[eX];rfl
 rw[g]at b;$(A4 b)
def eE(fs:List (List eS)):List (List eS):=fs.foldl k8 []
def zo(fs):(eE fs).Nodup:=(sA fs [] .nil).1
def og:k∈eE fs↔k∈fs:=by$(((sA fs [] .nil).2 k).trans ⋯)
def Xi(fs):(gJ (λi=>dR<|(fs[i]?).getD []) fs.length).length<=(eE fs).length:=by
 let(nd,mem):=sA ((hE fs.length).map λi=>dR<|(fs[i]?).getD []) [] .nil;rw[<-a8 (f:=dR) (as:=eE fs)];$(nd.length_le_of_subset λk b=>?_);let z||z:=(mem k).1 b
 .simp at z
 let(j,a,rfl):=ae.1 z;let a:=hI.1 a;rw[bt a];$(abO<|og.2<|GD a)
def vZ(a:dn)(zs:List (dn×List eS)):HO:=.ext λh=>∃o es ep t,h.get? a=al o/\o.ExactSet/\o.data=.set es ep t/\t.fits es.size=bi/\(zs≠[]->t.plain=bn)/\es.toList.map (·.2)=zs.map (mA ·.1)
theorem Mh(hc:X.calm=bi)(hu:X.A.units+64<u2):bN X (.type "set") (λxs H Q=>∃(p:dn) (vs:List V) (fs:List (List eS)),xs=[.ref p]/\Rd H p (.L vs)/\nH X.K H vs fs/\(eE fs).length<70 /\
  ∀S zs,H S=am->vm vs fs zs->(zs.map (·.2)).Nodup->(∀g,g∈zs.map (·.2)↔g∈fs)->Q (.ref S) (upd H S<|vZ S zs)):=by
 ext pins s σ H xs us Q I r h;let(p,vs,fs,rfl,rd,tx,hz,q):=h;let(u,rfl,ru):=r.one;$$ru;let(z,its,n,L,e):=rd.ok I.ao;let hL:s.heap.IsList p its.toArray:={_,e,ρ,n,ρ};let B:its.length=fs.length:=by rw[<-tx.1];$L.length.symm
 $(Tu (P:=X.prog) (w:=X.w) (knd:=cZ X.prog X.w) (val:=λi=>dR<|(fs[i]?).getD []) (U:=λa=>∃(i:Nat) (f:List eS),fs[i]?=al f/\vs[i]?=al (V.ref a)) (I.ok.hd hc) (by lia) hL (λi v E=>?_) (by rw[show its.toArray.size=fs.length from List.size_toArray.trans B];$(xr (Xi fs) hz)) λh' tk M hk=>?_)
 .let E:its[i]?=al v:=by$$$$E
  let C:i<fs.length:=by rw[<-B];$((cn.1 E).1)
  let(h0,a,l,sa):=tx.2 i _<|bt C;let(_,N,r1):=L.get l;$$r1;rw[E]at N;$$$$$$N;rw[bt C];$({a,ρ,{i,_,bt C,l},?_,CP I sa});show sC _ (dR fs[i]);cases G:fs[i]with
  |nil=>$(absurd G h0)
  | cons x r=>$(⟨_,_,ρ,λv hv=>by
    $$$v<;>first|$(⟨_,_,ρ⟩)|$((s9 hv).elim)⟩)
 simp?[show its.toArray.size=fs.length from List.size_toArray.trans B]at M;let(nd,mem):=sA ((hE fs.length).map λi=>dR<|(fs[i]?).getD []) [] .nil;let kp:∀b o,s.heap.get? b=al o->h'.get? b=al o:=λb o O=>hk b o (fj O) O
 let(o,es,ep,t,ho,R,hd,g,els,J,hn,nf,hU,hp):=M;let(zs,l,sub):=Gq (vs:=vs) (fs:=fs) (es.toList.map (·.2)) (λe he=>by let(e',T,rfl):=ae.1 he;$(hU e' T))
 let ta:=sub.zs tx;let W:es.size=zs.length:=by simp?[<-a8 (f:=λz:dn×List eS=>mA z.1),<-l,a8,hS]
 let F:∀f∈fs,f∈zs.map (·.2):=λf G=>by
  let(j,c,ej):=kA G;let hm:dR f∈gJ (λi=>dR<|(fs[i]?).getD []) fs.length:=(mem _).2 (τ<|ae.2 ⟨j,hI.2 c,by rw[bt c,ej];rfl⟩);let(i,a,ei,D):=(J _).2 hm;let Y:=congrArg (·[i]?) l;simp?[dk,gf,ei,v3]at Y;let(z,hz,e3):=ft.1 Y.symm;let hz:=eH hz;let e4:z.1=a:=by injection e3
  let(o',it,m,Z,g2):=CP I (ta z hz).2;rw[e4]at Z;rw[VN (D.inj {o',it,m,kp _ _ Z,g2})];$(abO hz)
 let YA:(zs.map (·.2)).Nodup:=by
  let pm:=HG nd (m:=(zs.map (·.2)).map dR) (λk D=>by
   let z||z:=(mem k).1 D
   .simp at z
   let(j,c,rfl):=ae.1 z;let c:=hI.1 c;rw[bt c];$(abO<|F _<|GD c)) (by simp?[a8,a8,<-W];$(abj hn))
  $(List.Pairwise.of_map dR (λa b h e=>h<|congrArg dR e)<|pm.nodup_iff.1 nd)
 let fr:=I.ao.fresh (a:=s.heap.objs.size)<|eT _;$({.ref s.heap.objs.size,upd H s.heap.objs.size<|vZ s.heap.objs.size zs,?_,ρ,q _ _ fr sub YA λg=>{λhg=>?_,F g}})
 .$(I.laid (t':=tk) kp (eT _) {{o,es,ep,t,ho,R,hd,g.fits,λz=>hp λy=>by simp!,l},⟨o,ho⟩,by simp!})
 let(z,hz,rfl):=ae.1 hg;let(i,e,_):=sub z hz;$(eH e)
theorem Inv.drawn(I:Inv X pins σ H s)(d:Drawn):Inv X pins σ H {s with drawn:=d}:=⟨I.ok,I.os,I.bare,I.base,I.loc,I.cell,I.free,I.fA,I.pin,I.ao,I.len⟩
theorem Jl:∀(l:List c) (m:List b),l.Perm (m.map f)->∃k:List b,l=k.map f/\k.Perm m
 |[],m,h=>{[],ρ,by rw[tz.1 h.nil_eq.symm]}
 |x::l,m,h=>by let(a,g,e):=ae.1<|h.mem_iff.1 fm;let(s,t,rfl):=List.append_of_mem g;let p:((s++a::t).map f).Perm (f a::(s++t).map f):=List.perm_middle.map f;rw[e]at p;let(k,rfl,i):=Jl l (s++t) (h.trans p).cons_inv;$({a::k,by rw[hH,e],(i.cons a).trans List.perm_middle.symm})
theorem wK:∀ys:List (dn×List eS),aO (ys.map (V.ref ·.1)) (ys.map (mA ·.1))
 |[]=>.nil
 |y::ys=>.cons ρ<|wK ys
theorem HZ(h:X.ex=[]){r:dn}{zs:List (dn×List eS)}{Q:VK}(col:∀(R:List cm->cA->Prop) (E:cm->cA->Prop),(∀a (ys:List (dn×List eS)),Inv X pins σ H a->ys.Perm zs->R (ys.map (mA ·.1)) a)->gj (hM X.prog X.w) X.A.in1 (collect<|.ref r) R E s)
 (i:Zs X.K H zs)(nd:(zs.map (·.2)).Nodup)(g2:2<=zs.length)(g64:zs.length<64)(q:∀ys:List (dn×List eS),ys.Perm zs->∀out,oD (lP (ys.map (·.2))) (ys.map (V.ref ·.1)) out->∀l,H l=am->Q (.ref l) (upd H l<|.L out)):gj (hM X.prog X.w) X.A (call (.builtin "sorted") [.ref r]) (EP X pins σ Q) X.xe s:=by
 $(aaP af9 afE afG (afH _) ?_);$$(ZI.«sorted»);$(bg (m:=ags "sorted" 1 1 _)<|dr ?_);$(bg (col _ _ λa ys J py=>?_));let ty:Zs X.K H ys:=λz hz=>i z<|py.mem_iff.1 hz;let nd:(ys.map (·.2)).Nodup:=(py.map _).nodup_iff.2 nd;let yl:=py.length_eq;let q:=q ys py;clear py i;let tx:=ty.txt;let c:(ys.map (V.ref ·.1)).length=ys.length:=a8 _;let f:(ys.map (mA ·.1)).length=ys.length:=a8 _;let O:=G7 nd;rw[a8,<-c]at O;let(m,j,hl):=J.loc;let Fl:=J.A7 j;let k:News (fB a.heap X.env.locals) X.env.locals a.heap (lG (fB a.heap X.env.locals) a.heap X.env.locals):=BE;$(bg<|adC ?_ (by simp?[f,wm];lia));let n:(a.heap.push (aaE "list" (ys.map (mA ·.1)).toArray 0)).get? a.heap.objs.size=al (aaE "list" (ys.map (mA ·.1)).toArray 0):=gi _ ρ;let keep:∀b o,a.heap.get? b=al o->(a.heap.push (aaE "list" (ys.map (mA ·.1)).toArray 0)).get? b=al o:=λb o e=>eu _ e;let lt:∀p∈lG (fB a.heap X.env.locals) a.heap X.env.locals,p.1<a.heap.objs.size:=λp g=>fj (k p g).1;$(bg<|pl<|se adf ⟨_,n,ρ⟩ acV ?body<|adg _);$(W.kat_list_sort (s:={a with heap:=a.heap.push (aaE "list" (ys.map (mA ·.1)).toArray 0)}) (Fl.kept keep) (k.grown keep) n (abh Fl.ns.lt) (aeU<|n5 Fl.above<|aaV Fl.ns.lt) (λp g=>gD<|lt p g) (by rw[f];lia) (by rw[f];lia) λe1 h' t u=>?_);$(FN h (T:=.type "str") J (wK ys) (by rw[c];lia) (by rw[c];lia) O ⋯ (HW J tx<|wK ys) (JQ J tx<|wK ys) q j hl lt t u λ_ x=>{_,ρ,dr {_,ρ,x}})
def M1(v:X.calm=bi)(c:X.ex=[]):bN X (.builtin "sorted") (λxs H Q=>∃S zs,xs=[.ref S]/\H S=al (vZ S zs)/\Zs X.K H zs/\(zs.map (·.2)).Nodup/\2<=zs.length/\zs.length<64 /\
  ∀ys:List (dn×List eS),ys.Perm zs->∀out,oD (lP (ys.map (·.2))) (ys.map (V.ref ·.1)) out->∀l,H l=am->Q (.ref l) (upd H l<|.L out)):=by
 ext pins s σ H xs us Q I r h;let(S,zs,rfl,x,y,nd,a,g,q):=h;let(u,rfl,B):=r.one;$$B;let((o,es,ep,t,ho,C,hd,D,F,i),_,_):=I.ao S _ x;let les:es.size=zs.length:=by simp?[<-a8 (f:=λz:dn×List eS=>mA z.1),<-i,a8,hS]
 $(HZ c (λR E k=>OC (A:=X.A.in1) (I.ok.hd v) ho C hd D (by lia) (by rw[wm];lia) (F λz=>by rw[z]at a;simp at a) λh1 d its kp pm=>?_) y nd a g q);simp?[i]at pm;let(ys,rfl,py):=Jl its zs pm;let(m,(G,j,n,p,r),hl):=I.loc;$(k _ ys ((I.Fg (tk:=s.toks) hl {G,j,n,kp _ _ p,r} λb o _ e=>kp b o e).drawn d) py)
def Jx(fs):(cM fs).Pairwise λa b=>jM a b=bi:=by$(ub (λa b c h1 h2=>?_) (λa b=>?_) fs);grind [oO];grind [jM]
def uC (h:a.Perm b):cM a=cM b :=
 oZ (λa b c e=>Cv (oO.1 e)<|oO.1 c) ((gk a jM).trans (h.trans (gk b jM).symm)) (Jx a) (Jx b)
theorem CB{K:f'}{H:Hp}:∀ys:List (dn×List eS),(∀z∈ys,bf K H z.1<|z.2.map V.str)->aB K H (ys.map λz=>tupS z.2) (ys.map (V.ref ·.1))
 |[],_=>rfl
 |y::ys,h=>{_,_,ρ,{y.1,_,ρ,h y fm,mC _},CB ys λz hz=>h z<|fk _ hz}
def Fm(f:DF):EF:=λZ=>(f Z).bind λp=>match p.1 with
 |.L ds=>(kr ds).bind λfs=>if 2<=(eE fs).length/\(eE fs).length<64 then al (.O<|.L<|(cM<|eE fs).map tupS,p.2)else am
 |_=>am
def VP (D:X.calm=bi)(E:X.ex=[])(N:X.A.units+64<u2)(O:Gl X "sorted")(hm:X.mg "sorted"=am)(F:Gl X "set")(G:X.mg "set"=am)(x:bD X e [])(I:km [.Call (.Name "set" y) [e] [] m] X.env=(false,eval (.Call (.Name "set" y) [e] [] m) X.env)::km [] X.env)(h:DD X e f):DE X (.Call (.Name "sorted" p) [.Call (.Name "set" y) [e] [] m] [] pos) (Fm f):=by
 let(t,pt,R):=h;$({_,kD (M1 D E) O hm (by decide +kernel) (bW (wH (Mh D N) F G (by rfl) (bW pt fF x) ⋯ ⋯ x ρ) fF I) ⋯ ⋯ I ρ,λT W Z σ H Hi d Z' Q j S k=>?_});unfold Fm at j;let(c,Z1,Y,j):=oB j;dsimp at j;$$$$$j
 .ext1 ds;let(fs,J,j):=oA j;$$$$$j
  .ext1 hz;let(rfl,rfl):=sP j;$(R T W Z σ H Hi _ _ _ Y S λv H1 Hi1 B s1 r1=>?_);let(a,ws,rfl,rd,rs):=r1;$({a,ws,fs,ρ,Rd.mono B.sub rd,(vI B.sub J rs).1,by lia,λb zs hb ta nd mem=>?_});let L:(zs.map (·.2)).Perm (eE fs):=(iR nd<|zo fs).2 λg=>by rw[mem g,og]
   let lz:zs.length=(eE fs).length:=by simp?[<-L.length_eq,a8]
   let r:=B.made (o:=vZ b zs) hb;let C:=ta.zs (vI (aj.refl _) J rs).1;$({b,zs,ρ,a9,λz n=>{(C z n).1,bf.mono r.sub (C z n).2},nd,by lia,by lia,λys py out h l hl=>?_});let(q,P,U,eo):=h;let lv:(ys.map (V.ref ·.1)).length=ys.length:=a8 _;let lf:(ys.map (·.2)).length=ys.length:=a8 _;let es:=yx (fs:=ys.map (·.2)) (by simp?[lf,<-lv];$P) (by simp!);simp?[uC ((py.map _).trans L)]at es;$$eo;let M:=aB.pick (CB ys λz n=>(C z<|py.mem_iff.1 n).2) q.toList<|λi u=>lb P i u;let em:(q.toList.map λi=>(ys.map λz=>tupS z.2).getD i .aG)=(cM<|eE fs).map tupS:=by simp?[<-es,eX];$(t9 λi u=>?_);let u:=lb P i u;simp!
   rw[em]at M;$(k (.ref l) _ Hi1 (r.made hl) s1 {l,ρ,{_,a9,M,r.dv hl},(r.bJ hl).2,(r.bJ hl).1,r.dM hl})
  $(nO j)
 $(nO j)
theorem gU.at{h h':nk}(r:gU h d es ep)(k:∀o,h.get? d=al o->h'.get? d=al o):gU h' d es ep:=let⟨o,a,b⟩:=r.ok;{o,k o a,b}
theorem MP(lo:(d==NN)=bn):W.KdlSrc prog w "dict" d d es.size (λi v=>(es[i]?).map (·.key)=al v) (λh=>gU h d es ep) where
 type:=λ_ r=>r.ty
 there:=λ_ r=>let⟨_,a,_⟩:=r.ok;{fj a,fj a}
 keep:=λ_ _ r k=>gU.at r λo e=>k d (ι ρ) o e
 notList:=⋯
 notTuple:=⋯
 hint:=λ_ _ _ _ r q=>W.kdl_hint_dict r.ty q
 iter:=λA s hh r=>by
  let g:d<s.heap.objs.size:=let⟨_,a,_⟩:=r.ok;fj a
  $({_,λi h=>h.IsKeyIter s.heap.objs.size d i es.size ep/\gU h d es ep,λ_ _ q=>GZ lo r q,{λb f=>by simp at f;simp[f],λ_ _ _ st k=>{?_,gU.at st.2 λo e=>k d ⋯ o e},λi s' Q E j st q=>?_,λs' Q E st q=>?_,λ_ _ _ _ st q=>ac9 st.1 q},{_,gi _ ρ,ρ,ρ},gU.at r λo e=>eu _ e})
  .let(o,e,c):=st.1;$({o,k _ ⋯ o e,c})
  .$(HA st.1 st.2 j λh' it l=>q _ h' s'.toks (by simp[j]) {it,gU.at st.2 λo e=>(l.2 d<|gD g).trans e} λb o f e=>(l.2 b<|λz=>f (by simp[z])).trans e)
  $(GA hh st.1 st.2 (eT _) λh' m=>q h' s'.toks λb o f e=>m b o (λz=>f (by simp[z])) e)
def RO(kvs:List (List Key×V))(zs:List (dn×List eS)):Prop:=kvs.map (·.1)=zs.map λz=>dR z.2
theorem Yj(B:X.calm=bi)(n:X.ex=[]):bN X (.builtin "sorted") (λxs H Q=>∃p kvs,xs=[.ref p]/\Rd H p (.dT kvs)/\2<=kvs.length/\kvs.length<64 /\
  ∀bs,j5 H kvs bs->(kvs.map (·.1)).Nodup->∃zs:List (dn×List eS),bs=zs.map (·.1)/\RO kvs zs/\Zs X.K H zs /\
  ∀ys:List (dn×List eS),ys.Perm zs->∀out,oD (lP (ys.map (·.2))) (ys.map (V.ref ·.1)) out->∀l,H l=am->Q (.ref l) (upd H l<|.L out)):=by
 ext pins s σ H xs us Q I r h;let(p,kvs,rfl,C,g2,g64,q):=h;let(u,rfl,D):=r.one;$$D;let ok:=vb I.ao C;let lo:=ok.2.1;let t:(kvs.map (·.1)).Nodup:=by
  let(_,_,xs,g,o,es,ep,j,h2,h3,h4,F):=ok;let e:∀{kvs:List (List Key×V)}{xs:List (List Key×dn×cm)},aaO (λ(p:List Key×V) (q:List Key×dn×cm)=>p.1=q.1/\H q.2.1=al (.U<|p.1.map kV)/\RelV p.2 q.2.2) kvs xs->kvs.map (·.1)=xs.map (·.1):=λg=>by
   induction g with
   |nil=>rfl
   |cons h _ G=>simp?[hH,hH,h.1,G]
  rw[e g];$F
 let(es,ep,o,bs,ho,v,g3,J,L,M):=uc ok;let(zs,rfl,x,N,q):=q bs L t;let lz:zs.length=kvs.length:=by let:=congrArg List.length x;$$$$this.symm
 $(HZ n (λR E k=>W.kdu_collect (A:=X.A.in1) (MP lo) (I.ok.hd B) ⟨o,ho,v,g3⟩ (by simp?[J,wm];lia) λh' tk c kp ac=>?_) N ?_ (by lia) (by lia) q)
 .let O:c.toList=zs.map (mA ·.1):=by
   $(afK λi=>?_);ext(m:i<es.size)
   .let(b,y,S):=M i m;rw[dk]at y;let(z,T,rfl):=ft.1 y;let f:i<c.size:=by rw[ac.1];$m
    let j:(es[i]?).map (·.key)=al c[i]:=ac.2 i c[i] (by simp[f]);rw[ib m]at j;simp?[show c.toList[i]?=al c[i]by simp[f],dk,T,<-Option.some.inj j];$(congrArg al S)
   rw[aaA (by simp?[hS,ac.1];lia),aaA (by rw[a8];lia)]
  simp?[O];$(k _ zs (I.kept (t':=tk) kp)<|.refl _)
 let:(zs.map λz=>dR z.2).Nodup:=x ▸ t;rw[show(zs.map λz=>dR z.2)=(zs.map (·.2)).map dR by rw[eX];rfl]at this;$(List.Pairwise.of_map dR (λa b h e=>h<|congrArg dR e) this)
def uK(i:Nat):EF:=λZ=>match Z[i]? with
 |some (.O<|.bh _ a)=>if 2<=a.length/\a.length<64/\∀k∈a,k.1≠[]then al (.O (.L ((cM (a.map (·.1))).map tupS)),Z)else am
 |_=>am
theorem P7{K:f'}{H:Hp}{a:gV}{kvs:List (List Key×V)}{bs:List dn}(c:kvs.map (·.1)=a.map λk=>kT k.1)(kb:j5 H kvs bs)(ne:∀k∈a,k.1≠[]):∃zs:List (dn×List eS),bs=zs.map (·.1)/\a.map (·.1)=zs.map (·.2)/\Zs K H zs:=by
 unfold j5 at kb;induction kb generalizing a with
 |nil =>
  cases a with
  |nil=>$({[],ρ,ρ,λz hz=>by simp at hz})
  |cons _ _=>simp at c
 |cons h _ e =>
  cases a with
  |nil=>simp at c
  |cons k a =>
   simp?[hH,hH]at c;let(f,g):=List.cons.inj c;let(zs,rfl,i,hz):=e g λq j=>ne q<|fk _ j;$({(_,k.1)::zs,ρ,by simp?[hH,hH,i],λz b=>?_});let rfl||b:=eW.1 b
   .$({ne k fm,ι<|ι ?_});rw[f,tO]at h;$h
   $(hz z b)
theorem Wg{x:eS}{n p:u1}{i:Nat}(D:X.calm=bi)(u:X.ex=[])(E:Gl X "sorted")(hm:X.mg "sorted"=am)(F:X.N.findIdx? (·==x)=al i)(G:bV X.env.scope x)(hd:bz x)(v:cB x)
 (y:km [.Name x n] X.env=(false,eval (.Name x n) X.env)::km [] X.env):DE X (.Call (.Name "sorted" p) [.Name x n] [] pos) (uK i):=by
 $({_,kD (Yj D u) E hm (by decide +kernel) (bW (dU (dI F) G hd v) fF y) ⋯ ⋯ y ρ,λH0 ps Z σ H Hi d Z' Q g S k=>?_});unfold uK at g;$$$$$g
 .ext1 fz A e;$$$$$g
  .ext1 hz;let(rfl,rfl):=sP g;let(p,I,(_,kvs,J,m,np),nl,n0):=S.O i _ e;let lk:=cc.length m;$({_,I,p,kvs,ρ,ι J,by lia,by lia,λbs kb nd=>?_});let(L,j,M,k1,_):=S.BX kb;let(zs,rfl,O,o):=P7 (K:=X.K) (uG m) k1 hz.2.2;let r:A.map (·.1)=zs.map (·.2):=O;let ndk:(zs.map (·.2)).Nodup:=by rw[<-r];let:=nd;rw[uG m]at this;$(List.Pairwise.of_map kT (S:=λa b=>a≠b) (λa b h e=>h<|An.2 e) (by rw[eX];$this))
   $({zs,ρ,?_,λz f=>{(o z f).1,bf.mono j.sub (o z f).2},λys py out ⟨q,P,U,R⟩ l hl=>?_})
   .show kvs.map (·.1)=zs.map λz=>dR z.2;simp?[uG m,show(zs.map λz=>dR z.2)=(zs.map (·.2)).map kT by rw[eX];rfl,<-r,eX];rfl
   let t:(ys.map (V.ref ·.1)).length=ys.length:=a8 _;let B:(ys.map (·.2)).length=ys.length:=a8 _;let es:=yx (fs:=ys.map (·.2)) (by simp?[B,<-t];$P) (by simp?[B,<-t];$U);rw[uC (py.map _),<-r]at es;$$R;let C:=aB.pick (CB ys λz f=>(o z<|py.mem_iff.1 f).2) q.toList<|λi c=>lb P i c;let em:(q.toList.map λi=>(ys.map λz=>tupS z.2).getD i .aG)=(cM (A.map (·.1))).map tupS:=by simp?[<-es,eX];$(t9 λi c=>?_);let c:=lb P i c;show _=tupS ((ys.map (·.2)).getD i []);rw[t]at c;rw[eO (by rw[a8];$c),eO (by rw[a8];$c),za,za]
   rw[em]at C;$(k (.ref l) _ L (j.made hl) M {l,ρ,{_,a9,C,j.dv hl},(j.bJ hl).2,(j.bJ hl).1,j.dM hl})
  $(nO g)
 $(nO g)
theorem NY{x:eS}{a p:u1}{i:Nat}(ht:lT x)(e:X.calm=bi)(b:X.ex=[])(f:Gl X "sorted")(hm:X.mg "sorted"=am)(g:X.N.findIdx? (·==x)=al i)(h:bV X.env.scope x)(hd:bz x)(c:cB x)
 (j:km [.Name x a] X.env=(false,eval (.Name x a) X.env)::km [] X.env):DE X (.Call (.Name "sorted" p) [.Name x a] [] pos) (uK i):=Wg e b f hm g h hd c j
structure yZ (x:eS):Prop where
 ok:True
def nA(i:Nat)(Z:DS):Option (List Dat):=((Z[i]?).bind iE).bind λd=>match d with
 |.L xs=>al xs
 |_=>am
theorem SR.seen{K:f'}{a:Hp×Hp}{b:Nat->Option dn}{Z:DS}{σ:St}{H Hi:Hp}{i:Nat}{xs:List Dat}(S:SR K a b Z σ H Hi)(e:nA i Z=al xs):∃v,σ[i]?=al (al v)/\Rep K H (.L xs) v:=by
 let(d,c,e):=oA e;let(v,f,t):=S.peek c;$$$$$e
 .$$$$$$e;let(p,vs,rfl,g,rs):=t;$({_,f,p,vs,ρ,g,aB.mono S.sub rs})
 $(nO e)
def GW(i:Nat):DF:=λZ=>(nA i Z).map λ_=>(.bl true,Z)
theorem UO{x:eS}{b p q:u1}{i:Nat}(ht:yZ x)(c:Gl X "isinstance")(e:X.mg "isinstance"=am)(f:Gl X "list")(g:X.mg "list"=am)(j:X.N.findIdx? (·==x)=al i)(l:bV X.env.scope x)(hd:bz x)(h:cB x)
 (hs:km [.Name x b,.Name "list" q] X.env=(false,eval (.Name x b) X.env)::km [.Name "list" q] X.env):DD X (.Call (.Name "isinstance" p) [.Name x b,.Name "list" q] [] pos) (GW i):=by
 $({_,kD JS c e (by decide +kernel) (bW (dU (dI j) l hd h) (bW (yz (v:=.ty "list") (u:=.type "list") f g (by decide +kernel) ρ) fF ρ) hs) ⋯ ⋯ hs ρ,λH0 ps Z σ H Hi d Z' Q a S k=>?_});unfold GW at a;let(xs,m,a):=oM a;let(rfl,rfl):=sP a;let(v,n,r):=S.seen m;$({v,n,H,.L xs,v,"list",true,ρ,aj.refl _,r,ρ,k _ H Hi S (aj.refl _) ρ})
def vh(i j:Nat):EF:=λZ=>(nA i Z).bind λxs=>(nA j Z).bind λys=>if(bU (.L xs)&&bU (.L ys))=bi then al (.D<|.bl<|!dm (.L xs) (.L ys),Z)else am
theorem SN{x y:eS}{l py:u1}{i j:Nat}(ht:yZ x)(m:X.A.units+64<u2)(n:X.N.findIdx? (·==x)=al i)(p:bV X.env.scope x)(hd:bz x)(e:cB x)(f:X.N.findIdx? (·==y)=al j)(g:bV X.env.scope y)(h:bz y)(c:cB y):DT X (.Compare (.Name x l) [.NotEq] [.Name y py] pos) (fT<|vh i j):=by
 $({_,pf (Jo m) (dU (dI n) p hd e) (dU (dI f) g h c)<|kN _,AE λH0 ps Z σ H Hi o Z' Q a S k=>?_});unfold vh at a;let(xs,q,a):=oA a;let(ys,t,a):=oA a;$$$$$a
 .ext1 b;let b:=l5.1 b;let(rfl,rfl):=sP a;let(v,z,r):=S.seen q;let(u,B,C):=S.seen t;$({v,z,u,B,H,_,_,aj.refl _,r,C,b.1,b.2,k _ H Hi S (aj.refl _) ρ})
 $(nO a)
theorem Kz{x:eS}{a b:u1}{i:Nat}(h:X.N.findIdx? (·==x)=al i)(j:bV X.env.scope x)(hd:bz x)(f:cB x)
 (c:aae (.Name x a) "clear" X.env (eval (.Name x a) X.env)=eval (.Name x a) X.env)(e:(apos.endLine==pos.line)=bi)(g:z8 (.Call (.Attribute (.Name x a) "clear" apos) [] [] pos) am b.line X.env=pure false) :
  cw X (.Expr (.Call (.Attribute (.Name x a) "clear" apos) [] [] pos) b) (m9<|Cb i Ao) :=
 xY (L9 i (R5 aa4 aeX PySem.F.type_list_clear WL (dU (dI h) j hd f) c e) Qa) g
def sQ(fn:kZ):aS:=λds=>match fn ds with
 |some (.ok r)=>al r
 |_=>am
theorem KD{x:eS}{k:Nat}{fn:kZ}(q:wO P w K mg base x k (pC K fn)):ba P w K mg base x k (aF K<|sQ fn):=by
 let(f,c,pn,F,m,kp,b):=q.is;let key:∀vs H Q E,aF K (sQ fn) vs H Q E->pC K fn vs H Q λ_ _ _=>False:=by
  ext vs H Q E ⟨Hi,ds,r,sm,g,e,i⟩;unfold sQ at e;$$$$$e
  .ext1 j;$$$e;$({Hi,ds,.ok r,sm,g,j,i})
  $$$e
 $({f,c,pn,{λvs H Q E h=>F.len vs H Q _<|key vs H Q E h,λA outer s H args us vs Q E l n o p hs=>?_},m,kp,b});$(aaC (F.run A outer s H args us vs Q _ l n o p<|key vs H Q E hs) λr s' h=>?_);cases r with
 |ok v=>$$$v<;>$h
 |error e=>let(a,cls,H',_,_,_,_,_,_,z):=h;$z.elim
open Classical in
end
section
namespace Mq
open Lean
nonrec def wk(k:String):MacroM (TSyntax `tactic):=`(tactic|walk_at $(Syntax.mkStrLit k):str)
nonrec def xa(n:Name):MacroM (TSyntax `tactic):=`(tactic|exact $(mkIdent n) (by assumption))
nonrec def xe(n:Name):MacroM (TSyntax `tactic):=`(tactic|exact $(mkIdent n))
nonrec def xi(k:String):MacroM (TSyntax `tactic):=do `(tactic|(intro _ _ _ _ _;$(← wk k):tactic))
nonrec def tc(c:Char):MacroM (TSyntax `tactic):=match c with
|'='=>`(tactic|with_reducible assumption)
|'r'=>`(tactic|rfl)
|'a'=>`(tactic|assumption)
|'d'=>`(tactic|decide)
|'e'=>`(tactic|exact ρ)
|'f'=>`(tactic|exact fun _=>rfl)
|'g'=>`(tactic|exact fun _ _=>rfl)
|'h'=>xa `mq
|'i'=>xa `qW
|'j'=>xa `u7
|'n'=>`(tactic|exact rX (by rfl))
|'p'=>xi "G"
|'t'=>xi "J"
|'u'=>xi "D"
|'w'=>xe `aeT
|'x'=>`(tactic|(simp[gr, *];done))
|'s'=>`(tactic|(simp[qx,gr, *];done))
|'q'=>`(tactic|(first |rfl |assumption |(simp[*];done)))
|'2'=>`(tactic|first |assumption |rfl |decide +kernel)
|'3'=>`(tactic|(first |assumption |(simp[c6];done)))
|'4'=>`(tactic|(simp[c6];done))
|'5'=>xa `cF.hd
|c=>wk c.toString
nonrec def ru(s:String):MacroM (TSyntax `tactic):=do
 if s.front=='>' then return (← wk (s.drop 1).toString)
 if s.front=='.' then return (← tc s.back)
 let b:=s.front=='!';let p:=(if b then (s.drop 1).toString else s).splitOn " ";let f:=mkIdent p.head!.toName;let mut h:=#[];let mut t:=#[]
 for c in (p.getD 1 "").toList do
  if c=='_' then h:=h.push (← `(?_))
  else
   let n:=mkIdent<|← Macro.addMacroScope (.mkSimple s!"x{h.size}")
   h:=h.push<|← `(?$n:ident)
   t:=t.push<|← `(tactic|case $n:ident=>$(← tc c):tactic)
 let r← if b then `(tactic|with_reducible refine' $f $h*) else `(tactic|refine' $f $h*)
 t.foldlM (λr x=>`(tactic|($r:tactic;$x:tactic))) r
nonrec def ra(s:String):MacroM (TSyntax `tactic):=do
 match s.splitOn "&" with
 |f::l=>
  let l←l.mapM ru
  match l.reverse with
  |[]=>ru s
  |x::l=>l.foldlM (λy x=>`(tactic|(refine' $(mkIdent f.toName) ?m ?n;(case m=>$x:tactic);(case n=>$y:tactic)))) x
 |[]=>ru s
nonrec def fs(s:String):MacroM Syntax:=do
 let l←(s.splitOn "|").mapM ra
 return (← l.reverse.foldlM (λy x=>`(tactic|first|$x:tactic|$y:tactic)) (← `(tactic|fail)))
nonrec def go(s:TSyntax `str)(t:String):MacroM Syntax:=do
 for e in t.splitOn "~" do
  if let [k,v]:=e.splitOn "@" then
   if k==s.getString then return ← fs v
 Macro.throwUnsupported
end Mq
local macro_rules | `(tactic| walk_at "r0")=>`(tactic| exact adT rfl)
local macro_rules | `(tactic| walk_at "r1")=>`(tactic| exact adS<|adT rfl)
local macro_rules | `(tactic| walk_at "r2")=>`(tactic| exact adS<|adS rfl)
local macro_rules | `(tactic| walk_at "r3")=>`(tactic| exact adS rfl)
local macro_rules | `(tactic| walk_at "r4")=>`(tactic| exact zU (by rfl))
local macro_rules | `(tactic| walk_at "r5")=>`(tactic| exact cF.mono (by assumption) ⋯)
local macro_rules | `(tactic|walk_at "h")=>`(tactic|(intros;cases‹Txt _›;walk_at "S"))
local macro_rules | `(tactic| walk_at "r6")=>`(tactic| (simp[jU,my,v8,mM,gG,uO, *];done))
local macro_rules | `(tactic| walk_at "r7")=>`(tactic| (simp[jU,my,v8,mM,gG];omega))
local macro_rules | `(tactic| walk_at "r8")=>`(tactic| decide +kernel)
local macro_rules | `(tactic| walk_at "r9")=>`(tactic| exact AJ (b:=true) (by decide +kernel))
local macro_rules | `(tactic| walk_at "r10")=>`(tactic| exact AJ (b:=false) (by decide +kernel))
local macro_rules | `(tactic| walk_at "w")=>`(tactic| repeat walk_at "w0")
local macro_rules | `(tactic| walk_at "wb")=>`(tactic| first|((with_reducible refine' wd ?p ?_);(case p=>walk_at "v"))|((with_reducible refine' C8 ?_);walk_at "wb")|((with_reducible refine' yE ?_);walk_at "wb")|fail)
local macro_rules | `(tactic| walk_at "wif")=>`(tactic| ((with_reducible refine' nP ?_);walk_at "wb"))
local macro_rules | `(tactic| walk_at $s:str)=>Mq.go s "w0@!ah _|!aq _|!eB _|!tN _|!vN _|!JH _|!aN ve_|!gn v_|!bY v_|!Ka v3_|!aP _~V@>r0|>r1|>r2~L@>r0|>r3~F@>r0|>r3~N@.a|>r4~R@.a|>r5~A@Ym|KP rDA~B@Sl rVrddA~O@Xc|W6 D~G@OT NrLF|W9 rrrH~H@PQ|Mb rGH~I@XJ rarA|dC.alt&Mg D&QC D~J@OD|NR T~1@Yw aarD|Vc|Vj|RM|QF|QQ rVdd|ND ard|NF rVhddgD|Pt hgDD|Oi A|Mo D|Qx D|Xp DD|L3 DD|Yi D|Ks rDDD|Qu rVradd|KW rararD|R3 rararD|Mu rararD|UL rararD|X3 rararD|UM rrrrD~D@>1|DE.dd 0~0@Yy aaRrD|SO DD|Qw DD|DE.alt&O7 DD&L6 DD|Sr DD|So DD|PL DD|R7 iDD|Rx iDD|QH DD|Q1 jrDD|ML A|QW DOO|Im aarrrrnrfIptu|Ej arrnrfIptu|Vz arRdrrA|Pq arRdrrB|Gp rrrarA|T7 rarA|TJ rrarA|Qi rrarrA|Se rrarrA~E@>0|DD.de 1~W@Wr T|Lu T|OK TW|K2 TW~T@Ku iDD|Pw iDD|Ta DD|Tg DD|MU jrDD|Ud jrDD|PN rDDD|Rp T|DW.dt W|Tr fD~M@SX rVdd|>E~Z@NU M|Ay NrLFrE|Nr arrLFrrnrfIptu|cw.alt&Ri rVddfrrrDD&OW rVhddrDD|M9 rVddrrrrrA|V7 wrfIGS|zi TSS~S@Gm|GB ZS~P@.a|.r~c@l8|mz P|Hx x|j7 s|Fd s~y@.r|.a|>r6|>r7|>r8~o@.=|ke q|Jd|>r9|>r10|wQ 22|v_eq cc|rB cc|Ie 3|pU 3|.e~z@.=|.e~k@Jf yv|AA yv~Q@!Lk ee|!Yv|!vB v~m@!Mm|!Ys|.e~v@.=|!ak|!aa vv|!u9 vQ|!BQ vk|!Co v|!sh vz|!xM v|!v_and vk|!qM vv|!v_or vk|!tT vv|!i9 v|!fw vz|!bL v|!xp vv|!FH vv|!v_res v|!ag vm|!ay vvo|!OL vz|!aC vz|!ff eveze|!ck v3|!dW v3|!ki vvz|!aY evez|!iX ez|!Td v|!JE vvovo|!JR veve3e|!wU veveze|!fh v|!qd ev|!EJ v4|!CW veve3e|.e~Y@Xk a5rAdrr|cw.calm Z|zi TXX~X@Gm|GB YX"
section
variable{P:hZ}{w:nL}{K:f'}{mg:eS->Option cm}{base:nk}
def F9(fn:aS):Prop:=∀(n:Dat) (x y r t:Int),eA (r-x) (t-y)=bi->fn [.U [n,.int x,.int y,.int r,.int t]]=al (.D<|.int<|(r-x)*(t-y))
def MI(T:Txt mg)(F:bb K "area" "area" yG f a):∃fn,aV P w K mg base bc 1 f a ["row"] (aF K fn)/\F9 fn:=by
 $$$(bX F C9 (n:=1) ρ ?C ?B)
 case C=>let nd:=C9.nd;$("h")
 clear T F;ext n x y r t h;$$$(Aw ?e)
 case e=>$("v")
def w6:aS
 | [d]=>(lC d "int").bind λa=>(lC d "bool").map λb=>.D (.bl<|a&&!b)
 |_=>am
def intBits_le (h:i.natAbs<2 ^ n):ro i<=n:=by
 delta ro;split
 .lia
 ext1 z;let:=(ahL (by ext e;$(z (by$$$$e)))).2 h;lia
def uH (h:j.natAbs<2 ^ 64):eA i j=bi:=by let:=intBits_le h;delta eA acT;rw[show bd (ro j>64)=bn from decide_eq_false (by lia)];simp
def yM (h:i.natAbs<2 ^ 64):eA i j=bi:=by let:=intBits_le h;delta eA acT;rw[show bd (ro i>64)=bn from decide_eq_false (by lia)];simp
def xH (a:i.natAbs<2 ^ 100)(b:j.natAbs<2 ^ 100):eA i j=bi:=by let h1:=intBits_le a;let h2:=intBits_le b;grind [eA,ab9,ah1]
end
structure bj (x:eS):Prop where
 wb:x.cps.all (·<128)=bi
 len:x.length<=99
def Gw (h:x.cps.all (·<128)=bi):sj x=bi:=by delta sj;rw[ac3]at h ⊢;ext c a;let:=h c a;lia
theorem bj.ok{x:eS}(h:bj x):sj x=bi:=Gw h.wb
def pD(p:Int×Int):Dat:=.L [.int p.1,.int p.2]
def Pu{m:Int}(h:m.natAbs<2 ^ 9000):m.natAbs.log2<9000:=by
 ext(z:m.natAbs=0)
 .rw[z];decide
 exact(ahL z).2 h
def oP(ds)(i):cT (.L ds) (.int i)=gb ds i:=ρ
def iK(c:Nat):Bool:=bd (97<=c)&&bd (c<=122)
def fu(x:eS):Bool:=bd (x="north")||bd (x="east")||bd (x="south")||bd (x="west")
def eF(x:eS):Bool:=bd (0<x.length)&&bd (x.length<9)&&x.cps.toList.all iK&&!fu x
def K9(c):((!bd (([c]:List Nat)<[97]))&&!bd (([122]:List Nat)<[c]))=iK c:=by
 delta iK;let e1:bd (([c]:List Nat)<[97])=bd (c<97):=by simp[SH]
 let e2:bd (([122]:List Nat)<[c])=bd (122<c):=by simp[SH]
 lia
def D8 (h:bj x):x.length<=sizeLine:=n5 h.len (by simp[c6])
def D5{x:eS}(b:sj x=bi){ys:List eS}(c:∀y∈ys,sj y=bi)(neg:Bool):ij neg (.str x) (.L<|ys.map .str)=al (.D<|.bl (if neg then !(ys.any λy=>bd<|y=x)else ys.any λy=>bd<|y=x)):=by
 let f:bU (.L<|ys.map .str)=bi:=j7 (by show(ys.map Dat.str).all gr=bi;rw[kz];ext d hd;let(y,a,rfl):=ae.1 hd;$(c y a))
 show(if(bU (.str x)&&bU (.L<|ys.map .str))=bi then al (Res.D<|.bl (if neg then !inD (.str x) (ys.map .str)else inD (.str x) (ys.map .str)))else am)=_;rw[mz b,f];let e:inD (.str x) (ys.map .str)=ys.any λy=>bd (y=x):=by rw[uO,adp];rfl
 rw[e];rfl
def MB{x:eS}(b:sj x=bi){ys:List eS}(c:∀y∈ys,sj y=bi)(neg:Bool):ij neg (.str x) (.U<|ys.map .str)=al (.D<|.bl (if neg then !(ys.any λy=>bd<|y=x)else ys.any λy=>bd<|y=x)):=by
 let f:bU (.U<|ys.map .str)=bi:=j7 (by show(ys.map Dat.str).all gr=bi;rw[kz];ext d hd;let(y,a,rfl):=ae.1 hd;$(c y a))
 show(if(bU (.str x)&&bU (.U<|ys.map .str))=bi then al (Res.D<|.bl (if neg then !inD (.str x) (ys.map .str)else inD (.str x) (ys.map .str)))else am)=_;rw[mz b,f];let e:inD (.str x) (ys.map .str)=ys.any λy=>bd (y=x):=by rw[uO,adp];rfl
 rw[e];rfl
def rH:List Str:=["north","east","south","west"]
def IG:∀y∈rH,sj y=bi:=by decide +kernel
def yA(x):(rH.any λy=>bd<|y=x)=fu x:=by simp[rH,fu,eq_comm,Bool.or_assoc]
def Rj (a:sj x=bi)(neg):ij neg (.str x) (.L [.str "north",.str "east",.str "south",.str "west"])=al (.D<|.bl (if neg then !fu x else fu x)):=by let:=D5 a IG neg;rwa[yA]at this
def qE (a:sj x=bi)(neg):ij neg (.str x) (.U [.str "north",.str "east",.str "south",.str "west"])=al (.D<|.bl (if neg then !fu x else fu x)):=by let:=MB a IG neg;rwa[yA]at this
section
variable{P:hZ}{w:nL}{K:f'}{mg:eS->Option cm}{base:nk}
def ya(fn:aS):Prop:=∀x,bj x->fn [.str x]=al (.D<|.bl<|eF x)
theorem Tw(T:Txt mg)(l:fJ K mg "WALLS" (.U [.str "north",.str "east",.str "south",.str "west"]))(m:fJ K mg "LONGEST_NAME" (.int 8)){f:dn}{b:hO}(F:bb K "is_name" "is_name" Ak f b):∃fn,aV P w K mg base bc 1 f b ["thing"] (aF K fn)/\ya fn:=by
 $$$(bX F EX (n:=1) ρ ?C ?B)
 case C=>let nd:=EX.nd;$("h")
 clear T F l m;ext x tx;let iw:=qE tx.ok false;let i1:lC (.str x) "str"=al true:=ρ;let hl:eQ (.str x)=al x.length:=if_pos<|D8 tx;$$$(cE ρ ?w);show WS _ [.D (.str x)] _;$("w");$("wif");$({λhw=>?_,λhw=>?_})
 .let hw:fu x=bi:=hw;$("w");$(gK ?_);$$(eF);rw[hw];simp
 let hw:fu x=bn:=hw;$("w");$("wif");$({λhz=>?_,λhz=>?_})
 .$("w");$(gK ?_);$$(eF);simp at hz;simp;ext j k;$_
 $("w");$$$(qu<|sZ<|tH<|mR<|il (AZ (λx=>[.no,.D x]) (λ_=>true) (λd=>match d with|.str y=>.bl (y.cps.toList.all iK)|_=>.aG) (N4 ?i tx.wb) ρ ?z ?g ?c ?e ?n)<|ue ?q)
 case i=>$("v")
 case z=>rw[a8,hS];$(D8 tx)
 case g=>ext y a Z hd;let rfl||(z,rfl):=hd<;>rfl
 case c=>ext y a;rfl
 case e=>ext y a _;let(c,o,rfl):=ae.1 a;show kd iP iP (fC<|.str "a") (eY 1) (fC<|.str "z") [.no,.D<|.str ⟨#[c]⟩]=al (.bl<|([c]:List Nat).all iK,[.no,.D<|.str ⟨#[c]⟩]);let p:iP (.str "a") (.str ⟨#[c]⟩)=al (.D<|.bl<|!bd (([c]:List Nat)<[97])):=ρ;let r:iP (.str ⟨#[c]⟩) (.str "z")=al (.D<|.bl<|!bd (([122]:List Nat)<[c])):=ρ;let:=JE (o1:=iP) (o2:=iP) (f:=fC<|.str "a") (g:=eY 1) (h:=fC<|.str "z") (Z:=[.no,.D<|.str ⟨#[c]⟩]) ρ ρ p ρ r;rw[this,K9];simp
 case n=>ext y a;rfl
 let e:((x.cps.toList.map λc=>Dat.str ⟨#[c]⟩).filter λ_=>true).map (λd=>match d with|.str y=>Dat.bl (y.cps.toList.all iK)|_=>Dat.aG)=x.cps.toList.map λc=>Dat.bl (iK c):=by rw[acW.2 (by intros;rfl),eX];apply t9;ext c o;simp
 $({.D<|.bl<|eF x,?_,_,ρ});show n8 [.L _]=_;rw[e];show(jN _).map _=_;rw[sG];simp at hz;let j:bd (0<x.length)=bi:=by simp;$_
 let k:bd (x.length<9)=bi:=by simp;$_
 simp[eF,hw,j,k,agW,Function.comp]
def C2 (h:c Z=al (b,Z1))(hb:b=bi)(a:e Z1=al (r,Z2))(q:Q (.ret r Z2)):WS (lx (kj c (lx (mm e) vL) s') g) Z Q :=
 ah (eI h (λ_=>ah<|bY a q) λz=>by simp!)
end
abbrev Fl:=Vn eS
def ai(x:eS×Ob):Dat:=.U [.str x.1,.int x.2.l,.int x.2.b,.int x.2.r,.int x.2.t]
def aw(rs:Fl):Dat:=.L<|rs.map ai
section
variable{P:hZ}{w:nL}{K:f'}{mg:eS->Option cm}{base:nk}
def MA (h:0<=i)(h':i<26):cT (.str "abcdefghijklmnopqrstuvwxyz") (.int i)=al (.str ⟨#[97+i.toNat]⟩):=by
 let key:∀j:Fin 26,(ia "abcdefghijklmnopqrstuvwxyz").cps.toList[j.val]?=al (97+j.val):=by decide +kernel
 let e:=key {i.toNat,by lia};let a:=nh e;rw[aa3 h]at a;show(if(ia "abcdefghijklmnopqrstuvwxyz").length<=c6 then(gb (ia "abcdefghijklmnopqrstuvwxyz").cps.toList i).map (λc=>Dat.str ⟨#[c]⟩)else am)=_;rw[if_pos (by rw[show(ia "abcdefghijklmnopqrstuvwxyz").length=26 from by decide +kernel];simp[c6]),a];rfl
def zV{n:Int}{k:Nat}{x:Dat}(h:(eM 0 n)[k]?=al x):(k:Int)<n/\x=.int k:=by let h1:=(cn.1 h).1;simp![eM]
def gZ (h:(Z[i]?).bind ownOf=al (false,.L xs))(a:fa Z=al ([d],Z))(hl:xs.length<c6):kR i uf fa Z=al (.aG,Z.set i<|.O<|.L<|xs++[d]):=by delta kR;rw[h];rw[a];show((Z[i]?).bind ownOf).bind _=_;rw[h];show(if xs.length<c6 then al (Dat.aG,Dat.L<|xs++[d])else am).map _=_;rw[if_pos hl];rfl
theorem join_one:∀cs:List Nat,(ae9 (ia "") (cs.map λc=>(⟨#[c]⟩:eS))).cps.toList=cs
 |[]=>rfl
 |[c]=>rfl
 | c::d::r=>by
  let e:(ia "").cps=#[]:=by decide +kernel
  show((⟨#[c]⟩:eS)++ia "" ++ ae9 (ia "") ((d::r).map λc=>(⟨#[c]⟩:eS))).cps.toList=_;simp?[abf,e,aaY,join_one (d::r)];simp
def Xa(cs):(acw (ia "") (cs.map λc=>(⟨#[c]⟩:eS))).cps.toList=cs:=by simp[acw,StrLaws.glued_eq_join,join_one]
theorem D9 (f):∀cs:List a,dS (cs.map λc=>.str<|f c)=al (cs.map f)
 |[]=>rfl
 |c::cs=>by simp?[hH,dS,D9 f cs];rfl
structure vS (c:Nat) (x:eS):Prop where
 fst:x.cps.toList[0]?=al c
 wb:∀a∈x.cps.toList,iK a=bi
 len:x.cps.toList.length<=8
def RF{i:Int}(h:0<=i)(h':i<26):iK (97+i.toNat)=bi:=by delta iK;simp;lia
def vS.nm (h:vS c x)(hw:fu x=bn):eF x=bi:=by let b:=h.len;let a:=(cn.1 h.fst).1;let b:x.length<=8:=b;let a:0<x.length:=a;delta eF;simp?[hw,decide_eq_true a,decide_eq_true (by lia:x.length<9),kz.2 h.wb];rfl
theorem X6(x):fu (x++ia "x")=bn:=by
 cases e:fu (x++ia "x")with
 |false=>rfl
 |true =>
  let key:∀y∈rH,y.cps.toList.getLast?≠al 120:=by decide +kernel
  let:(rH.any λy=>bd<|y=x++ia "x")=bi:=by rw[yA];$e
  let(y,a,e):=zc.1 this;let e:y=x++ia "x":=by$$$$e
  $(absurd ?_<|key y a);simp?[e,abf,aaY,show(ia "x").cps.toList=[120]from by decide +kernel];simp
end
local macro_rules | `(tactic| walk_at $s:str)=>Mq.go s "0@Wo rrarA|Qk rrarA|NT rrarA|DE.alt&Gp rrrarA&Bj rrarA|Xy TEE|N1~1@Yc rrararrD|TK rDDD|Q5 jrrrrDA|S7 arVhddgD~I@Sb rarA~Z@Ss rVddrrrrrA"
section
variable{P:hZ}{w:nL}{K:f'}{mg:eS->Option cm}{base:nk}
def xI (h:f Z=al (.U ds,Z1)):alt (j8 f) (lK f) Z=al (ds,Z1):=by apply fh;delta j8;rw[h];rfl
def mK(x:eS×Ob):Bool:=eF x.1&&(bd (0<=x.2.l)&&bd (x.2.l<x.2.r))&&(bd (0<=x.2.b)&&bd (x.2.b<x.2.t))
def JP(fn:aS):Prop:=∀x:eS×Ob,bj x.1->fn [ai x]=al (.D<|.bl<|mK x)
theorem Yp(T:Txt mg)(w1:fJ K mg "ROW_LENGTH" (.int 5)){c:aS}(e:ba P w K mg base "is_name" 1 (aF K c))(g:ya c)(i:ba P w K mg base "is_whole" 1 (aF K w6)){f:dn}{d:hO}(F:bb K "is_row" "is_row" zY f d):∃fn,aV P w K mg base bc 2 f d ["thing"] (aF K fn)/\JP fn:=by
 $$$(bX F EM ρ ?C ?B)
 case C=>let nd:=EM.nd;$("h")
 ext x tx;let en:=g x.1 tx;let(n,l,b,r,t):=x;$$$(cE ρ ?w)
 case w =>
  $("w");$("wif");$({λh=>?_,λh=>?_})
  .$("w");apply gK;delta mK;rw[pe]at h;rw[h];rfl
  $("w");$$$(nP<|yE<|zE<|mR<|sZ<|tH<|mR<|il (AZ (xs:=[.int l,.int b,.int r,.int t]) (λx=>[.no,.D x]) (λ_=>true) (λ_=>.bl true) (xI ρ) ρ ?D ?G ?I ?J ?L) ?M)
  case D=>show 4<=c6;$$(c6);decide
  case G=>ext y a Z hd;let rfl||(z,rfl):=hd<;>rfl
  case I=>ext y a;rfl
  case J=>ext y a _;simp at a;let rfl||rfl||rfl||rfl:=a<;>rfl
  case L=>ext y a;rfl
  $(ue {.D<|.bl true,ρ,true,ρ,λz=>(by$$$z),λ_=>?_});$("w");apply gK;delta mK;rw[aap]at h;rw[h];rfl
def gC(x y:Ob):Int:=qN x.r y.r-imax x.l y.l
def fW(x y:Ob):Int:=qN x.t y.t-imax x.b y.b
def qr(g:Ob->Ob->Int)(fn:aS):Prop:=∀x y:eS×Ob,fn [ai x,ai y]=al (.D<|.int<|g x.2 y.2)
theorem Nh(T:Txt mg){f:dn}{a:hO}(F:bb K "width_shared" "width_shared" BU f a):∃fn,aV P w K mg base bc 1 f a ["row","other"] (aF K fn)/\qr gC fn:=by
 $$$(bX F JX ρ ?C ?B)
 case C=>$("h")
 ext x y;$$$(cE ρ ?w);dsimp[ai];$("w");$({_,ρ})
theorem NL(T:Txt mg){f:dn}{a:hO}(F:bb K "height_shared" "height_shared" zX f a):∃fn,aV P w K mg base bc 1 f a ["row","other"] (aF K fn)/\qr fW fn:=by
 $$$(bX F Js ρ ?C ?B)
 case C=>$("h")
 ext x y;$$$(cE ρ ?w);dsimp[ai];$("w");$({_,ρ})
def Hw:Dat->Ob
 |.U [_,.int l,.int b,.int r,.int t]=>⟨l,b,r,t⟩
 |_=>{0,0,0,0}
def iQ(x y:Ob):Bool:=bd (0<gC x y)&&bd (0<fW x y)
def Kh(fn:aS):Prop:=∀(x:eS×Ob) (rs:Fl),rs.length<=1000->fn [ai x,aw rs]=al (.D<|.bl (rs.any λy=>iQ x.2 y.2))
theorem LP(T:Txt mg)(g:AO mg){a b:aS}(i:ba P w K mg base "width_shared" 1 (aF K a))(j:qr gC a)(k:ba P w K mg base "height_shared" 1 (aF K b))(l:qr fW b){f:dn}{h:hO}(F:bb K "lies_over" "lies_over" B8 f h):∃fn,aV P w K mg base bc 2 f h ["row","rows"] (aF K fn)/\Kh fn:=by
 $$$(bX F Em ρ ?C ?B)
 case C=>let nd:=Em.nd;$$$g;$("h")
 ext x rs hz;$$$(cE ρ ?w);$$$(ah<|qu<|sZ<|tH<|mR<|il (AZ (λy=>[.no,.D y,.D<|ai x]) (λ_=>true) (λd=>.bl<|iQ x.2<|Hw d) (bP ρ) ρ ?D ?G ?I ?J ?L) ?M)
 case D=>rw[a8];$$(c6);$_
 case G=>ext y e Z hd;let rfl||(z,rfl):=hd<;>rfl
 case I=>ext y e;rfl
 case J=>ext d hd _;let(y,e,rfl):=ae.1 hd;let e1:=j x y;let e2:=l x y;show _=al (Dat.bl<|bd (0<gC x.2 y.2)&&bd (0<fW x.2 y.2),_);$("v")
 case L=>ext y e;rfl
 let ep:((((rs.map ai).filter λ_=>true).map λd=>Dat.bl<|iQ x.2<|Hw d))=(rs.map λy=>iQ x.2 y.2).map Dat.bl:=by rw[acW.2 (by intros;rfl),eX,eX];rfl
 $(ue {.D<|.bl (rs.any λy=>iQ x.2 y.2),?_,⟨_,ρ⟩});rw[ep];show(jN<|(rs.map λy=>iQ x.2 y.2).map Dat.bl).map _=_;rw[show(rs.map λy=>iQ x.2 y.2).map Dat.bl=(rs.map λy=>iQ x.2 y.2).map (λc=>Dat.bl<|id c)from ρ,sG id];simp
def oE (h:ns≠[]):fI ns∈ns:=by let h0:=pB.2 h;let(h1,_):=argBest_gt (λi=>(ns[i]?).getD 0)<|ns.length-1;delta fI;rw[bt ∅];$(GD _)
def rM (h:a∈ns):a<=fI ns:=by let(h1,b):=argBest_gt (λi=>(ns[i]?).getD 0)<|ns.length-1;let(j,c,e):=kA h;let:=b j (by lia);simp?[bt c,e]at this;$this
def ne_int(i j):dN true (.int i) (.int j)=al (.D<|.bl<|!bd (i=j)):=by rw[rB l8 l8,jU]
def eq_int(i j):dN false (.int i) (.int j)=al (.D<|.bl<|bd<|i=j):=by rw[v_eq l8 l8,jU]
theorem qm{a:Type}(xs:List a)(k:Nat):cutD xs (al (k:Int)) am=xs.drop k:=by simp[cutD,xQ,Dc,acD]
theorem sX{a:Type}(xs:List a)(k:Nat):cutD xs am (al (k:Int))=xs.take k:=by simp[cutD,xQ,Dc]
def la (h:f Z=al (d,Z1))(a:g Z1=al (.int i,Z2))(b:fQ d (al i) am=al r):jH f (jT g) rj Z=al (r,Z2):=by delta jH;rw[h];simp;delta jT;rw[a];show(fQ d (al i) am).map _=_;rw[b];rfl
def uX (h:f Z=al (d,Z1))(h1:g Z1=al (.int i,Z2))(h2:fQ d am (al i)=al r):jH f rj (jT g) Z=al (r,Z2):=by simp![jH,rj,jT]
structure gX (rs:Fl):Prop where
 tx:∀x∈rs,bj x.1
 nu:∀x∈rs,(-(2 ^ 95)<x.2.l/\x.2.l<2 ^ 95)/\(-(2 ^ 95)<x.2.b/\x.2.b<2 ^ 95)/\(-(2 ^ 95)<x.2.r/\x.2.r<2 ^ 95)/\(-(2 ^ 95)<x.2.t/\x.2.t<2 ^ 95)
 bI:rs.length<=50
def bB(rs:Fl):Int:=fI (rs.map λx=>x.2.r)
def bH(rs:Fl):Int:=fI (rs.map λx=>x.2.t)
def eZ(rs:Fl):Int:=(rs.map λx=>x.2.area).sum
def kc(rs:Fl):Bool:=bd (1<=rs.length)&&bd (rs.length<=8)&&rs.all mK&&bd (jO (rs.map (·.1))=rs.length)&&!((hE rs.length).any λi=>(rs.drop<|i+1).any λy=>iQ (rs.getD i ("",{0,0,0,0})).2 y.2)&&bd (eZ rs=bB rs*bH rs)
def IS(fn:aS):Prop:=∀rs:Fl,gX rs->fn [aw rs]=al (.D<|.bl<|kc rs)
def Lg(T:Txt mg)(p:AO mg)(w1:fJ K mg "MOST_ROOMS" (.int 8))(u:ba P w K mg base "is_row" 2 (aF K k))(v:JP k)(I:ba P w K mg base "lies_over" 2 (aF K l))(J:Kh l)(L:ba P w K mg base "area" 1 (aF K m))(M:F9 m)(F:bb K "is_any_floor" "is_any_floor" yc f q):∃fn,aV P w K mg base bc 3 f q ["rows"] (aF K fn)/\IS fn:=by
 refine' bX F HJ (n:=1) ρ ?N ?B
 case N=>let nd:=HJ.nd;$$$p;$("h")
 clear T p F u I L;ext rs ok;$$$(cE ρ ?w);show WS _ [.D (aw rs),.no] _;let O:eQ (aw rs)=al rs.length:=by simp[aw,eQ]
 walk_at "w";$("wif");$({λh=>?_,λh=>?_})
 .walk_at "w";$(gK ?_);grind [kc]
 let hl:(bd (1<=rs.length)&&bd (rs.length<=8))=bi:=by rw[aap]at h;rw[<-h];congr 1<;>$(decide_eq_decide.2 ∅)
 let o:1<=rs.length/\rs.length<=8:=by$$$$hl
 let c:rs≠[]:=λz=>by rw[z]at o;simp at o
 let sz:rs.length<=sizeLine:=∅
 walk_at "w";$$$(nP<|yE<|zE<|mR<|sZ<|tH<|mR<|il (cX (enc:=ai) (xs:=rs) (λx=>[.no,.D<|ai x]) (λx=>.bl<|mK x) (bP ρ) ρ sz ?Q ?R ?S) ?U)
 case Q=>ext y b Z hd;let rfl||(z,rfl):=hd<;>rfl
 case R=>ext y b;let e:=v y<|ok.tx y b;$("v")
 case S=>ext y b;rfl
 refine ue {_,Cp mK rs,_,ρ,λz=>?_,λz=>?_}
 .walk_at "w";$(gK ?_);$$(kc);rw[pe]at z;rw[hl,z];rfl
 rw[aap]at z;$("w");show WS _ [.D (aw rs),.no] _;$$$(nP<|yb<|il (ay (yL (λx:eS×Ob=>x.1) (ag (cX (enc:=ai) (xs:=rs) (λx=>[.no,.D<|ai x]) (λx=>.str x.1) (bP ρ) ρ sz ?V ?W ?X) ρ) ?Y) (iX ρ O)<|ne_int _ _) ⟨_,ρ,λg=>?t1,λg=>?t2⟩)
 case V=>ext y b Z hd;let rfl||(z,rfl):=hd<;>rfl
 case W=>ext y b;rfl
 case X=>ext y b;rfl
 case Y=>$_
 case t1 =>
  walk_at "w";$(gK ?_);$$(kc);let:bd (jO (rs.map (·.1))=rs.length)=bn:=by simp?[pe,decide_eq_false_iff_not]at g;$(decide_eq_false<|λz=>g (by rw[z]))
  rw[hl,z,this];rfl
 let hd:bd (jO (rs.map (·.1))=rs.length)=bi:=by simp?[aap,decide_eq_true_eq]at g;$(decide_eq_true ∅)
 walk_at "w";show WS _ [.D (aw rs),.no] _;$$$(nP<|zE<|mR<|sZ<|tH<|mR<|il (cX (enc:=λi:Nat=>Dat.U [.int (i:Int),(rs.map ai).getD i .aG]) (xs:=hE (rs.map ai).length) (λi=>[.no,.D<|.int (i:Int),.D<|(rs.map ai).getD i .aG,.D<|aw rs]) (λi=>.bl ((rs.drop<|i+1).any λy=>iQ (rs.getD i ("",⟨0,0,0,0⟩)).2 y.2)) (Mr ρ) ρ ?p3 ?p4 ?p6 ?p7) ?p8)
 case p3=>rw[me,a8];$sz
 case p4=>ext y b Z hd;let rfl||(z,rfl):=hd<;>rfl
 case p6 =>
  ext i j;let j:i<rs.length:=by rw[hI,a8]at j;$j
  let e0:(rs.map ai).getD i .aG=ai (rs.getD i ("",{0,0,0,0})):=by rw[l4,dk,l4,bt j];rfl
  let e:=J (rs.getD i ("",{0,0,0,0})) (rs.drop<|i+1) (by rw[tm];$_);let es:fQ (aw rs) (al<|(i:Int)+1) am=al (.O<|aw<|rs.drop<|i+1):=by show al (Res.O<|.L<|cutD (rs.map ai) (al<|(i:Int)+1) am)=_;rw[show((i:Int)+1)=((i+1:Nat):Int)from by push_cast;rfl,qm,<-aax];rfl
  rw[e0];refine ag (aC (aa ρ<|aa (ag (la ρ (ag (ay ρ ρ ρ) ρ) es) ρ) ak) e) ρ
 case p7=>ext y b;rfl
 refine ue {_,Ja _ _,_,ρ,λd=>?_,λd=>?_}
 .walk_at "w";$(gK ?_);$$(kc);rw[a8]at d;rw[hl,z,hd,d];rfl
 rw[a8]at d;$("w");show WS _ [.D (aw rs),.no] _;$$$(aN (fh<|ay (ag (aC (aa (ag (cX (enc:=ai) (xs:=rs) (λx=>[.no,.D<|ai x]) (λx=>.int x.2.r) (bP ρ) ρ sz ?m4 ?m6 ?m7) ρ) ak)<|lO (λx:eS×Ob=>x.2.r) c) ρ) (ag (aC (aa (ag (cX (enc:=ai) (xs:=rs) (λx=>[.no,.D<|ai x]) (λx=>.int x.2.t) (bP ρ) ρ sz ?n4 ?n6 ?n7) ρ) ak)<|lO (λx:eS×Ob=>x.2.t) c) ρ)<|ke ?D) ρ<|aq ?C)
 case m4=>ext y b Z hd;let rfl||(z,rfl):=hd<;>rfl
 case m6=>ext y b;rfl
 case m7=>ext y b;rfl
 case n4=>ext y b Z hd;let rfl||(z,rfl):=hd<;>rfl
 case n6=>ext y b;rfl
 case n7=>ext y b;rfl
 case D =>
  let(x,hx,ex):=ae.1<|oE (ns:=rs.map λx=>x.2.r) (by$$$$c);let(y,b,ey):=ae.1<|oE (ns:=rs.map λx=>x.2.t) (by$$$$c);let a1:=(ok.nu x hx).2.2.1;let a2:=(ok.nu y b).2.2.2;$(xH ?_ ?_)
  .rw[<-ex];$_
  rw[<-ey];$_
 show WS _ [.D (aw rs),.D<|.int<|bB rs*bH rs] _;$$$(ah<|qu<|il (ay (ag (aC (aa (ag (cX (enc:=ai) (xs:=rs) (λx=>[.no,.D<|ai x]) (λx=>.int x.2.area) (bP ρ) ρ sz ?o4 ?o6 ?o7) ρ) ak)<|Sq (λx:eS×Ob=>x.2.area) rs) ρ) ρ<|eq_int _ _) ?G)
 case o4=>ext y b Z hd;let rfl||(z,rfl):=hd<;>rfl
 case o6=>ext y b;let a:=ok.nu y b;$(ag (aC (aa ρ ak)<|M _ _ _ _ _<|xH ∅ ∅) ρ)
 case o7=>ext y b;rfl
 refine gK ?_;$$(kc);rw[hl,z,hd,d];rfl
theorem C1 (h:WB c Z λb Z1=>(b=bi->WE f Z1 Q)/\(b=bn->WE g Z1 Q)):WE (uU c f g) Z Q:=by
 let(b,Z1,e,d,i):=h;cases b with
 |true=>let(r,Z2,a,q):=d ρ;$({r,Z2,by$$(uU);rw[e];$a,q})
 |false=>let(r,Z2,a,q):=i ρ;$({r,Z2,by$$(uU);rw[e];$a,q})
def tM (h:d=d'):∃a,Out.ret (.D d) Z=.ret (.D d') a:={Z,by rw[h]}
def az(k:Nat):Str:=if k=0 then"north" else if k=1 then"east" else if k=2 then"south" else"west"
def gv(x y:Ob):Option Nat:=if 0<gC x y/\fW x y=0 then(if y.b=x.t then al 0 else al 2)else if gC x y=0/\0<fW x y then(if y.l=x.r then al 1 else al 3)else am
def HF:Option Nat->Dat
 |some k=>.str (az k)
 |none=>.aG
def CS(fn:aS):Prop:=∀x y:eS×Ob,fn [ai x,ai y]=al (.D<|HF<|gv x.2 y.2)
def Tq(T:Txt mg)(g:ba P w K mg base "width_shared" 1 (aF K c))(i:qr gC c)(j:ba P w K mg base "height_shared" 1 (aF K d))(k:qr fW d)(F:bb K "side_touched" "side_touched" ym f e):∃fn,aV P w K mg base bc 2 f e ["row","other"] (aF K fn)/\CS fn:=by
 $$$(bX F FV ρ ?C ?B)
 case C=>$("h")
 ext x y;let e1:=i x y;let e2:=k x y;$$$(cE ρ ?w)
 case w =>
  $("w");$("wif");$({λh=>?_,λh=>?_})
  .let hh:0<gC x.2 y.2/\fW x.2 y.2=0:=by$$$$h
   $$$(ah<|qu<|C1<|yb<|il (ay ρ ρ<|eq_int y.2.b x.2.t) ⟨_,ρ,λz=>?D,λz=>?G⟩)
   case D=>$$$(il ρ<|tM ?_);delta gv;rw[if_pos hh,if_pos<|of_decide_eq_true z];rfl
   $$$(il ρ<|tM ?_);delta gv;rw[if_pos hh,if_neg<|of_decide_eq_false z];rfl
  let hh:¬(0<gC x.2 y.2/\fW x.2 y.2=0):=by$$$$h
  $("w");$("wif");$({λh=>?_,λh=>?_})
  .let a:gC x.2 y.2=0/\0<fW x.2 y.2:=by$$$$h
   $$$(ah<|qu<|C1<|yb<|il (ay ρ ρ<|eq_int y.2.l x.2.r) ⟨_,ρ,λz=>?I,λz=>?J⟩)
   case I=>$$$(il ρ<|tM ?_);delta gv;rw[if_neg hh,if_pos a,if_pos<|of_decide_eq_true z];rfl
   $$$(il ρ<|tM ?_);delta gv;rw[if_neg hh,if_pos a,if_neg<|of_decide_eq_false z];rfl
  let a:¬(gC x.2 y.2=0/\0<fW x.2 y.2):=by$$$$h
  $("w");apply tM;delta gv;rw[if_neg hh,if_neg a];rfl
def cO(k:Nat)(y:Ob):Int:=if k=0 then y.l else if k=1 then -y.b else if k=2 then -y.l else y.b
def JV(fn:aS):Prop:=∀(k:Nat) (y:eS×Ob),k<4->fn [.str (az k),ai y]=al (.D<|.int<|cO k y.2)
def Yl(T:Txt mg)(F:bb K "place_clockwise" "place_clockwise" Bu f a):∃fn,aV P w K mg base bc 1 f a ["side","other"] (aF K fn)/\JV fn:=by
 $$$(bX F Jz ρ ?C ?B)
 case C=>$("h")
 ext k y hk;$$$(cE ρ ?w);let:k=0\/k=1\/k=2\/k=3:=⋯;let rfl||rfl||rfl||rfl:=this
 .show WS _ [.D (.str "north"),.D<|ai y] _;$("w");$("wif");$({λ_=>?_,λh=>(by$$$h)});$("w");$({_,ρ})
 .show WS _ [.D (.str "east"),.D<|ai y] _;$("w");$("wif");$({λh=>(by$$$h),λ_=>?_});$("w");$("wif");$({λ_=>?_,λh=>(by$$$h)});$("w");$({_,ρ})
 .show WS _ [.D (.str "south"),.D<|ai y] _;$("w");$("wif");$({λh=>(by$$$h),λ_=>?_});$("w");$("wif");$({λh=>(by$$$h),λ_=>?_});$("w");$("wif");$({λ_=>?_,λh=>(by$$$h)});$("w");$({_,ρ})
 show WS _ [.D (.str "west"),.D<|ai y] _;$("w");$("wif");$({λh=>(by$$$h),λ_=>?_});$("w");$("wif");$({λh=>(by$$$h),λ_=>?_});$("w");$("wif");$({λh=>(by$$$h),λ_=>?_});$("w");$({_,ρ})
def Ih(fn:aS):Prop:=∀l:List (eS×eS),l.length<=1000->fn [.L (l.map λx=>.U [.str x.1,.str x.2])]=al (.O<|.L (l.map λx=>.str x.2))
def V2(T:Txt mg)(F:bb K "names_of" "names_of" BW f a):∃fn,aV P w K mg base bc 1 f a ["touched"] (aF K fn)/\Ih fn:=by
 $$$(bX F C4 ρ ?C ?B)
 case C=>let nd:=C4.nd;$("h")
 ext l hz;$$$(cE ρ ?w);$$$(ah<|qu<|il (cX (λx=>[.no,.D<|.str x.1,.D<|.str x.2]) (λx=>.str x.2) (bP ρ) ρ ?D ?G ?I ?J) ⟨_,ρ⟩)
 case D=>$$(c6);$_
 case G=>ext y b Z hd;let rfl||(z,rfl):=hd<;>rfl
 case I=>ext y b;rfl
 ext y b;rfl
def nU(ns:List eS):List Str:=match ns.findIdx? (λx=>bd<|x=NV ns)with
 |some i=>ns.drop i++ns.take i
 |none=>ns
theorem Mq{ns:List eS}(a:∀x∈ns,bj x){m:eS}(hm:bj m):uR (.str m) (ns.map .str)=ns.findIdx? (λx=>bd<|x=m):=by
 delta uR;induction ns with
 |nil=>rfl
 |cons x ns b=>show((toPy<|.str x)::dG (ns.map .str)).findIdx? _=_;let ex:aai (toPy<|.str x) (toPy<|.str m)=bd (x=m):=my x m;rw[afn,afn,ex,b λy c=>a y<|fk _ c]
def pL{ns:List eS}(a:∀x∈ns,bj x):bU (.L<|ns.map .str)=bi:=j7 (by show(ns.map Dat.str).all gr=bi;rw[kz];ext d hd;let(x,b,rfl):=ae.1 hd;$((a x b).ok))
def Vr (h:f Z=al (.L ds,Z1))(h1:fa Z1=al ([d],Z2))(c1:bU (.L ds)=bi)(c2:bU d=bi)(e:uR d ds=al j):tJ f fa Z=al (.int (j:Int),Z2):=by delta tJ;simp!
def pairD(x:eS×List eS):Dat:=.U [.str x.1,.L<|x.2.map .str]
def dc(rs:Fl):Fl:=[("north",{0,bH rs,bB rs,bH rs+1}),("east",{bB rs,0,bB rs+1,bH rs}),("south",{0,-1,bB rs,0}),("west",{-1,0,0,bH rs})]
def GU(fn:aS):Prop:=∀rs:Fl,rs≠[]->rs.length<=1000->fn [aw rs]=al (.O<|aw<|dc rs)
def Xw(T:Txt mg)(F:bb K "wall_rows" "wall_rows" Bl f c):∃fn,aV P w K mg base bc 1 f c ["floor"] (aF K fn)/\GU fn:=by
 $$$(bX F EW ρ ?C ?B)
 case C=>let nd:=EW.nd;$("h")
 ext rs b hz;let sz:rs.length<=sizeLine:=by$$(c6);lia
 $$$(cE ρ ?w);$$$(ah<|aN (aC (aa (ag (cX (λx=>[.no,.D<|ai x]) (λx=>.int x.2.r) (bP ρ) ρ sz ?D ?G ?I) ρ) ak)<|lO (λx:eS×Ob=>x.2.r) b) ρ<|aq<|ah<|aN (aC (aa (ag (cX (λx=>[.no,.D<|ai x]) (λx=>.int x.2.t) (bP ρ) ρ sz ?J ?L ?M) ρ) ak)<|lO (λx:eS×Ob=>x.2.t) b) ρ<|aq ?_)
 case D=>ext y a Z hd;let rfl||(z,rfl):=hd<;>rfl
 case G=>ext y a;rfl
 case I=>ext y a;rfl
 case J=>ext y a Z hd;let rfl||(z,rfl):=hd<;>rfl
 case L=>ext y a;rfl
 case M=>ext y a;rfl
 $("w");$({_,ρ})
def Fr(s:Slot):Prop:=s=.no\/∃d,s=.D d
def di(x:Ob)(rs:Fl)(k:Nat):List (Int×eS):=(rs.filter λy=>bd<|gv x y.2=al k).map λy=>(cO k y.2,y.1)
def cV(l:List (Int×eS)):List (Int×eS):=l.mergeSort λa b=>bd<|a.1<=b.1
def dq(p:Int×eS):Dat:=.U [.int p.1,.str p.2]
theorem Kv(l:List (Int×eS)):firstsI (l.map dq)=al (l.map (·.1)):=by
 induction l with
 |nil=>rfl
 |cons x l a=>rw[hH,firstsI,a];rfl
def E8 (c:(l.map (·.1)).Nodup)(hz:l.length<64):qH [.L (l.map dq)]=al (.O<|.L<|(cV l).map dq):=by show(firstsI _).bind _=_;rw[Kv];show(if _/\_ then _ else am)=_;rw[if_pos {c,by rw[a8];$hz}];delta cV vz;rw[<-aan (r:=λa b:Int×eS=>bd<|a.1<=b.1) (λa _ b _=>rfl)]
theorem QY (h:l≠[]):j6 [.L (l.map dq)]=am:=by
 cases l with
 |nil=>cases h ρ
 |cons x l=>rfl
def Vs (b:(l.map (·.1)).Nodup)(hz:l.length<64)(a:fa Z=al ([.L (l.map dq)],Z1)):alt (bT j6 fa) (bT qH fa) Z=al (.O<|.L<|(cV l).map dq,Z1):=by
 ext(h:l=[])
 .subst h;$(fh<|aC a ?_);let:cV []=[]:=by$$(cV);simp
  rw[this];show(if([]:List eS).Nodup/\([]:List Dat).length<64 then al (Res.O<|.L<|nK [])else am)=_;simp[nK]
 refine qd ?_<|aC a<|E8 b hz;$$(bT);rw[a];show(j6 [.L (l.map dq)]).map _=am;rw[QY h];rfl
theorem NW (a:k<4)(ho:∀j,o=al j->j<4):dN false (HF o) (.str<|az k)=al (.D<|.bl<|bd<|o=al k):=by
 let a:k=0\/k=1\/k=2\/k=3:=⋯;cases o with
 |none=>rw[v_eq (j7 ρ) (j7 (by let rfl||rfl||rfl||rfl:=a<;>decide +kernel))];rfl
 |some j=>let b:=ho j ρ;let b:j=0\/j=1\/j=2\/j=3:=⋯;let rfl||rfl||rfl||rfl:=a<;>let rfl||rfl||rfl||rfl:=b<;>$(AJ (by decide +kernel))
def cP(x:Ob)(rs:Fl)(n:Nat):List (eS×eS):=(hE n).flatMap λk=>(cV<|di x rs k).map λp=>(az k,p.2)
def jc(x:eS×eS):Dat:=.U [.str x.1,.str x.2]
def A8(x)(rs)(n):cP x rs (n+1)=cP x rs n++(cV<|di x rs n).map λp=>(az n,p.2):=by simp[cP,abH]
def pF(l):(cV l).length=l.length:=(gk _ _).length_eq
theorem xf(x)(rs)(n):(cP x rs n).length<=n*rs.length:=by
 induction n with
 |zero=>simp[cP]
 |succ n ih =>
  rw[A8,eR,a8,pF,abV];let:(di x rs n).length<=rs.length:=by delta di;rw[a8];$(px _ _)
  lia
def Qb (h:(Z[i]?).bind ownOf=al (false,.L xs))(a:fa Z=al ([.L zs],Z1))(b:(Z1[i]?).bind ownOf=al (false,.L xs))(hl:xs.length+zs.length<=c6):kR i v9 fa Z=al (.aG,Z1.set i<|.O<|.L<|xs++zs):=by delta kR;rw[h];rw[a];dsimp[mv];rw[b];show(if xs.length+zs.length<=c6 then _ else am).map _=_;rw[if_pos hl];rfl
def Jp(fn:aS):Prop:=∀(x:eS×Ob) (rs:Fl),rs.length<64->(∀k,k<4->((di x.2 rs k).map (·.1)).Nodup)->fn [ai x,aw rs]=al (.O<|.L<|(cP x.2 rs 4).map jc)
theorem M6(T:Txt mg)(w1:fJ K mg "WALLS" (.U [.str "north",.str "east",.str "south",.str "west"]))(t:ba P w K mg base "place_clockwise" 1 (aF K g))(u:JV g)(v:ba P w K mg base "side_touched" 2 (aF K i))(D:CS i)(F:bb K "touching" "touching" yF f m):∃fn,aV P w K mg base bc 3 f m ["row","rows"] (aF K fn)/\Jp fn:=by
 refine' bX F Hk ρ ?G ?B
 case G=>let nd:=Hk.nd;$("h")
 ext x rs hz I;let sz:rs.length<=sizeLine:=by$$(c6);lia
 refine' cE ρ ?w
 case w =>
  walk_at "w";let J:∀(k:Nat) (y:Dat),[Dat.str (ia "north"),.str<|ia "east",.str<|ia "south",.str<|ia "west"][k]?=al y->k<4/\y=.str (az k):=λk y h=>by
   match k,h with
   |0,h=>$$$h;$({⋯,rfl})
   |1,h=>$$$h;$({⋯,rfl})
   |2,h=>$$$h;$({⋯,rfl})
   |3,h=>$$$h;$({⋯,rfl})
  refine' dD (λk Z=>∃c b,Fr c/\Fr b/\Z=[.D (ai x),.D<|aw rs,.O<|.L<|(cP x.2 rs k).map jc,c,b]) (xI ρ) ?h0 ?st ?C
  case h0=>$({.no,.no,ι ρ,ι ρ,ρ})
  case st =>
   ext k y a Z ⟨c,b,o,q,rfl⟩;let(l,rfl):=J k y a;$({[.D (ai x),.D<|aw rs,.O<|.L<|(cP x.2 rs k).map jc,.D<|.str<|az k,b],by let rfl||(d,rfl):=o<;>rfl,?_});let ep:((rs.filter λy=>bd<|gv x.2 y.2=al k).map λy:eS×Ob=>dq (cO k y.2,y.1))=(di x.2 rs k).map dq:=by$$(di);rw[eX];rfl
   let r:(di x.2 rs k).length<64:=by delta di;rw[a8];$(xr (px _ _) hz)
   let hl4:=xf x.2 rs k;let hk4:k*rs.length<=4*rs.length:=afb _ ∅;$$$(ah<|aN (uB (λy=>[.no,.D<|ai y,.D<|ai x,.D<|.str<|az k]) (λy=>bd<|gv x.2 y.2=al k) (λy=>dq (cO k y.2,y.1)) (bP ρ) ?L sz ?M ?N ?O ?Q) ?R<|aq ?_)
   case L=>$ρ
   case M=>ext y a Z hd;let rfl||(z,rfl):=hd<;>rfl
   case N =>
    ext y a;let e:=D x y;$(bL (ay (ag (aC (aa ρ<|aa ρ ak) e) ρ) ρ (NW l λj S=>(λh=>by
      delta gv at h;$$$$$h
      .split at h<;>$$$h<;>decide
      split at h
      .split at h<;>$$$h<;>decide
      cases h) S)))
   case O=>ext y a _;let e:=u k y l;$(dW (aa (ag (aC (aa ρ<|aa ρ ak) e) ρ)<|aa ρ ak) (by simp[c6]))
   case Q=>ext y a;rfl
   case R=>rw[ep];let rfl||(d,rfl):=q<;>rfl
   let U:=Vs (fa:=gz (eY 4) js) (Z:=[.D (ai x),.D<|aw rs,.O<|.L<|(cP x.2 rs k).map jc,.D<|.str<|az k,.O<|.L<|(di x.2 rs k).map dq]) (I k l) r<|aa ρ ak;$$$(ah<|gn (Qb ?V (aa (ag (cX (Z2:=[.D (ai x),.D<|aw rs,.O<|.L<|(cP x.2 rs k).map jc,.D<|.str<|az k,.D<|.L<|(di x.2 rs k).map dq]) (λp=>[.no,.D<|.int p.1,.D<|.str p.2,.D<|.str<|az k]) (λp=>jc (az k,p.2)) (bP<|ag U ρ) ?W ?X ?Y ?b6 ?b7) ?c3) ak) ?c2 ?b8)<|aq<|aP ?b9)
   case V=>$ρ
   case c2=>$ρ
   case c3=>$ρ
   case W=>$ρ
   case X=>rw[pF];$$(c6);$_
   case Y=>ext y a Z hd;let rfl||(z,rfl):=hd<;>rfl
   case b6=>ext y a;rfl
   case b7=>ext y a;rfl
   case b8=>rw[a8,a8,pF];delta c6;lia
   refine{.D<|.str<|az k,.D<|.L<|(di x.2 rs k).map dq,τ ⟨_,ρ⟩,τ ⟨_,ρ⟩,?_};rw[A8,fv,eX];rfl
  ext Z ⟨c,b,o,q,rfl⟩;$("w");$({_,ρ})
def cD(rs a:Fl):List (eS×Dat):=rs.map λx=>(x.1,Dat.L<|(cP x.2 a 4).map jc)
theorem RQ{a:List (eS×Dat)}{k:eS}{d:Dat}(h:k∉a.map (·.1)):lB a k d=a++[(k,d)]:=by simp![lB,df]
def BH(fn:aS):Prop:=∀rs:Fl,rs≠[]->rs.length<=50->(rs.map (·.1)).Nodup->(∀x∈rs,∀k,k<4->((di x.2 (rs++dc rs) k).map (·.1)).Nodup)->fn [aw rs]=al (.O<|.bK<|cD rs<|rs++dc rs)
theorem V1(T:Txt mg)(z:ba P w K mg base "wall_rows" 1 (aF K h))(D:GU h)(G:ba P w K mg base "touching" 3 (aF K i))(I:Jp i)(F:bb K "all_touching" "all_touching" Al f m):∃fn,aV P w K mg base bc 4 f m ["floor"] (aF K fn)/\BH fn:=by
 $$$(bX F Io ρ ?J ?B)
 case J=>$("h")
 ext rs p hz L q;let M:=D rs p (by lia);$$$(cE ρ ?w);obtain⟨a,l⟩:∃a,a=rs++dc rs:={_,ρ};rw[<-l]at q ⊢;let r:a.length<64:=by rw[l,eR];show rs.length+4<64;lia
 let N:gN (aw rs) (aw<|dc rs)=al (.O<|aw a):=by grind [gN,c6,aw]
 $$$(ah<|aN (ay ρ (ag (aC (aa ρ ak) M) ρ) N) ρ<|aq<|ah<|aN ρ ρ<|aq<|ah ?_);$$$(dD (λk Z=>∃b g,(b=.O (aw a)\/b=.D (aw a))/\Fr g/\Z=[.D (aw rs),b,.O<|.bK<|cD (rs.take k) a,g]) (bP ρ) ?h0 ?st ?C)
 case h0=>$({_,.no,ι ρ,ι ρ,ρ})
 case st =>
  ext k y c Z ⟨b,g,t,u,rfl⟩;rw[dk]at c;cases ex:rs[k]? with
  |none=>simp!
  |some x =>
   rw[ex]at c;$$$c;let O:=(cn.1 ex).1;let Q:=eH ex;let R:=I x a r<|q x Q;$({[.D (aw rs),b,.O<|.bK<|cD (rs.take k) a,.D<|ai x],by let rfl||(d,rfl):=u<;>rfl,?_});let nx:x.1∉(cD (rs.take k) a).map (·.1):=by
    $$(cD);rw[eX];ext hm;let(y,c,ey):=ae.1 hm;let(j,S,ej):=kA c;rw[iW]at S;let U:(rs.map (·.1))[j]'(by rw[a8];$_)=(rs.map (·.1))[k]'(by rw[a8];$O):=by simp!
    let:=(He L).1 U;$_
   let V:lB (cD (rs.take k) a) x.1 (.L<|(cP x.2 a 4).map jc)=cD (rs.take<|k+1) a:=by rw[RQ nx,aed,ex];$$(cD);rw[fv];rfl
   let v:(cD (rs.take k) a).length<sizeLine:=by grind [cD,c6]
   $$$(ah<|TL (o:=.next [.D (aw rs),.D<|aw a,.O<|.bK<|cD (rs.take<|k+1) a,.D<|ai x]) (JR (Z1:=[.D (aw rs),.D<|aw a,.O<|.bK<|cD (rs.take k) a,.D<|ai x]) (ag (aC (aa ρ<|aa ?W ak) R) ρ) ρ ?X ?Y v ?i4)<|aq<|aP ?i5)
   case W=>let rfl||rfl:=t<;>rfl
   case X=>$ρ
   case Y=>$ρ
   case i4=>show List.set _ 2 (Slot.O<|.bK<|lB (cD (rs.take k) a) x.1<|.L<|(cP x.2 a 4).map jc)=_;rw[V];rfl
   $({_,_,τ ρ,τ {_,ρ},ρ})
 ext Z ⟨b,g,t,u,rfl⟩;rw[a8,lq];$("w");$({_,ρ})
def oF(rs:Fl):List (Int×Int):=dA (rs.map (·.2))
structure QM (rs:Fl):Prop where
 ne:rs≠[]
 nd:(rs.map (·.1)).Nodup
 bI:rs.length<=8
 cnt:∀p∈oF rs,(oF rs).count p<=4
 th:∀x∈rs,∀k,k<4->((di x.2 (rs++dc rs) k).map (·.1)).Nodup
 ring:∀x∈rs,cP x.2 (rs++dc rs) 4≠[]
def gw(rs:Fl)(x:eS×Ob):List Str:=(cP x.2 (rs++dc rs) 4).map (·.2)
def xD:p∈cV l↔p∈l:=(gk _ _).mem_iff
def Dy (ok:gX rs):∀y∈gw rs x,bj y:=by
 ext y c;unfold gw cP at c;let(z,hz,rfl):=ae.1 c;let(k,hk,hz):=hY.1 hz;let(p,b,rfl):=ae.1 hz;let b:=xD.1 b;unfold di at b;let(r,a,rfl):=ae.1 b;let a:=(hG.1 a).1;let a||a:=eK.1 a
 .$(ok.tx r a)
 let:∀z∈dc rs,bj z.1:=by
  ext z hz;unfold dc at hz;simp?[eW,gW,or_false]at hz;let d:bj "north":={by decide +kernel,by decide +kernel};let e:bj "east":={by decide +kernel,by decide +kernel};let f:bj "south":={by decide +kernel,by decide +kernel};let g:bj "west":={by decide +kernel,by decide +kernel};let rfl||rfl||rfl||rfl:=hz
  .$d
  .$e
  .$f
  $g
 $(this r a)
theorem Ee (b:(rs.map (·.1)).Nodup)(a:x∈rs):df (cD rs W) x.1=al (.L<|(cP x.2 W 4).map jc):=by
 unfold cD df;induction rs with
 |nil=>$$$a
 |cons y rs c =>
  rw[hH,qo]at b;rw[hH,abJ];let rfl||a:=eW.1 a
  .simp
  let:¬y.1=x.1:=λz=>b.1 (by rw[z];$(ae.2 ⟨x,a,ρ⟩));rw[show bd (y.1=x.1)=bn from decide_eq_false this];$(c b.2 a)
def kX (h0:Z[i]?=al (.D<|.cN a))(h:g Z=al (.str k,Z1))(h':df a k=al d):vF i g Z=al (d,Z1):=by simp![vF]
def dP(a:Nat)(x y:Ob):Bool:=if a=1 then bd (x.l<y.r)&&bd (y.l<x.r)else bd (x.b<y.t)&&bd (y.b<x.t)
def bM(k:Nat)(x y:Ob):Bool:=if k=0 then bd (y.b=x.t)&&dP 1 x y else if k=1 then bd (y.l=x.r)&&dP 2 x y else if k=2 then bd (y.t=x.b)&&dP 1 x y else bd (y.r=x.l)&&dP 2 x y
def gE(rs:Fl)(x:Ob)(k:Nat):List (Int×eS):=(rs.filter λy=>bM k x y.2).map λy=>(cO k y.2,y.1)
def cb(rs:Fl)(x:Ob)(k:Nat):List Str:=if gE rs x k=[]then[az k]else(cV<|gE rs x k).map (·.2)
def qA (h:c Z=al (b,Z1))(a:b=bi)(t:WS s Z1 Q):WS (kj c s s') Z Q:=eI h (λ_=>t)<|λz=>absurd (a.symm.trans z) ⋯
def wu (h:c Z=al (b,Z1))(a:b=bn)(t:WS s' Z1 Q):WS (kj c s s') Z Q:=eI h (λz=>absurd (a.symm.trans z) ⋯)<|λ_=>t
def dH(rs:Fl)(x:Ob)(n:Nat):List Str:=(hE n).flatMap λk=>cb rs x k
def pW(rs)(x)(n):dH rs x (n+1)=dH rs x n++cb rs x n:=by simp[dH,abH]
def Ve(rs)(x)(k):cb rs x k≠[]:=by
 delta cb;split
 .simp
 ext1 h;ext z;let z:=congrArg List.length z;rw[a8,pF]at z;$(h<|aac.1 z)
theorem MH(rs:Fl)(x:Ob):dH rs x 4≠[]:=by rw[pW];$(λz=>Ve _ _ _ (List.append_eq_nil_iff.1 z).2)
def u5(rs:Fl)(x:Ob):Prop:=∀k,k<4->((gE rs x k).map (·.1)).Nodup
theorem U2(l:Fl):firstsD (l.map ai)=al (l.map (·.1)):=by
 induction l with
 |nil=>rfl
 |cons x l a=>rw[hH,firstsD,a];rfl
def rS(rs:Fl):Fl:=rs.mergeSort λa b=>fK (ai a)<|ai b
def Pc(rs)(f)(h:∀a∈rs,∀b∈rs,fK (f a) (f b)=fK (ai a) (ai b)):nK (rs.map f)=(rS rs).map f:=by delta nK rS;rw[<-aan (λa c b d=>(h a c b d).symm)]
def tX(rs:Fl):Bool:=bd (∃p∈oF rs,3<(oF rs).count p)
end
theorem Fu:∀(l d:List Key),d.Nodup->((l.foldl iO d).length=d.length+l.length↔l.Nodup/\∀x∈l,x∉d)
 |[],d,_=>⋯
 | v::l,d,h=>by
  let le:∀(l d:List Key),(l.foldl iO d).length<=d.length+l.length:=by
   ext l;induction l with
   |nil=>ext d;simp
   |cons a l f=>ext d;simp;let:=f<|iO d a;let e:=Iw d a;$$$$$e<;>lia
  simp?[abI,g8];ext(g:v∈d)
  .let e:iO d v=d:=if_pos (zc.2 {v,g,⋯});constructor
   .ext z;let:=le l d;lia
   ext⟨_,z⟩;cases z v (fm ..) g
  let e:iO d v=d++[v]:=if_neg (by simp!);let h':(d++[v]).Nodup:=by rw[ka];$({h,⋯,?_});grind
  let f:=Fu l (d++[v]) h';simp?[eR,abn]at f;rw[e,show d.length+(l.length+1)=d.length+1+l.length from by lia,f,qo];constructor
  .ext⟨a,b⟩;$({{λz=>b v z ⋯,a},?_});simp!
  ext⟨⟨a,b⟩,c⟩;$({b,λx hx z=>?_});simp!
def xP(ys):jO ys=ys.length↔ys.Nodup:=by
 dsimp[jO,dZ];let e:(hE ys.length).map (λi=>(uy ((ys[i]?).getD aaz):Key))=ys.map uy:=by
  apply afV
  .simp
  ext i h1 b;let:i<ys.length:=by$$$$b
  simp[this]
 rw[e];let:=Fu (ys.map uy) [] aaL;simp?[a8,aaw,aaS]at this;rw[this];constructor
 .ext⟨a,_⟩;$((gd.1 a).imp λh z=>h (by rw[z]))
 ext a;$({gd.2 (a.imp λh z=>h<|Sum.inr.inj z),λx _ z=>by$$$z})
theorem JB:∀{l:List c},(∀i x,l[i]?=al x->∀y∈l.drop (i+1),R x y)↔l.Pairwise R
 |[]=>⋯
 | a::l=>by
  rw[Rg,<-JB];constructor
  .ext h;$({λy b=>h 0 a ρ y b,λi x e y b=>h (i+1) x e y b})
  ext⟨d,f⟩ i x e y b;cases i with
  |zero=>$$$e;$(d y b)
  |succ i=>$(f i x e y b)
structure aE (rs:Fl):Prop where
 ne:rs≠[]
 bI:rs.length<=8
 nm:∀x∈rs,eF x.1=bi
 row:∀x∈rs,0<=x.2.l/\x.2.l<x.2.r/\0<=x.2.b/\x.2.b<x.2.t
 nd:(rs.map (·.1)).Nodup
 ap:rs.Pairwise λx y=>Apart x.2 y.2
 ar:eZ rs=bB rs*bH rs
def HR (a:x.ok)(b:y.ok):iQ x y=bn↔Apart x y:=by delta iQ gC fW qN imax Apart;unfold Ob.ok at a b;rw[aeS,decide_eq_false_iff_not,decide_eq_false_iff_not];constructor;$_;lia
def Hl(x):mK x=bi↔eF x.1=bi/\0<=x.2.l/\x.2.l<x.2.r/\0<=x.2.b/\x.2.b<x.2.t:=by$$(mK);lia
def uM(rs):kc rs=bi↔aE rs:=by
 let m:(∀x∈rs,x.2.ok)->(((hE rs.length).any λi=>(rs.drop<|i+1).any λy=>iQ (rs.getD i ("",{0,0,0,0})).2 y.2)=bn ↔ rs.Pairwise λx y=>Apart x.2 y.2):=by
  ext ok;rw[<-JB,adq];constructor
  .ext h i x e y k;let j:=(cn.1 e).1;let:=h i<|hI.2 j;rw[zd,adq]at this;let:=this y k;rw[zd,l4,e]at this;$((HR (ok x<|eH e)<|ok y<|aaM k).1 this)
  ext h i j;let j:=hI.1 j;rw[zd,adq];ext y k;let e:rs[i]?=al rs[i]:=bt j;rw[zd,l4,e];$((HR (ok _<|GD j)<|ok y<|aaM k).2 (h i _ e y k))
 $$(kc);simp?[e8,decide_eq_true_eq,pe,kz];constructor
 .ext⟨⟨⟨⟨⟨a,b⟩,c⟩,d⟩,e⟩,f⟩;let l:∀x∈rs,_:=λx g=>(Hl x).1 (c x g);$({λz=>by rw[z]at a;simp at a,b,λx g=>(l x g).1,λx g=>(l x g).2,?_,(m λx g=>{(l x g).2.2.1,(l x g).2.2.2.2}).1 e,f});rw[<-xP,d,a8]
 ext F;$({{{{{pB.2 F.ne,F.bI},λx g=>(Hl x).2 {F.nm x g,F.row x g}},?_},(m λx g=>{(F.row x g).2.1,(F.row x g).2.2.2}).2 F.ap},F.ar});rw[(xP _).2 F.nd,a8]
def HU (h1:a<b)(h2:c<d):(0<qN b d-imax a c↔a<d/\c<b)/\(qN b d-imax a c=0↔c=b\/d=a)/\(c=b->d≠a):=by unfold qN imax;$({?_,?_,?_})<;>$_
def UP [Decidable p][Decidable h][Decidable w][Decidable q][Decidable c][Decidable d](n:p->¬w):(if p/\h then(if c then al 0 else al 2)else if w/\q then(if d then al 1 else al 3)else am)=al k↔(p/\h/\if c then 0=k else 2=k)\/(w/\q/\if d then 1=k else 3=k):=by
 ext(A:p/\h)
 .rw[if_pos A];split<;>simp[A,n A.1]
 rw[if_neg A];ext(B:w/\q)
 .rw[if_pos B];split<;>simp[B,show¬p from λa=>n a B.1]
 rw[if_neg B];$({nofun,λh=>h.elim (λh=>absurd ⟨h.1,h.2.1⟩ A) λh=>absurd ⟨h.1,h.2.1⟩ B})
def sV (c:x.ok)(d:y.ok)(e:k<4):(gv x y=al k)↔bM k x y=bi:=by
 obtain⟨f,g,n1⟩:(0<gC x y↔x.l<y.r/\y.l<x.r)/\(gC x y=0↔y.l=x.r\/y.r=x.l)/\(y.l=x.r->y.r≠x.l):=HU c.1 d.1;obtain⟨h,i,n2⟩:(0<fW x y↔x.b<y.t/\y.b<x.t)/\(fW x y=0↔y.b=x.t\/y.t=x.b)/\(y.b=x.t->y.t≠x.b):=HU c.2 d.2;let e:k=0\/k=1\/k=2\/k=3:=by lia
 unfold gv bM dP;rw[UP (λa b=>by rw[b]at a;$$$a),f,h,g,i];clear f h g i c d;let rfl||rfl||rfl||rfl:=e<;>by_cases y.b=x.t<;>by_cases y.l=x.r<;>simp![and_comm]
def aE.mG (F:aE rs)(a:x∈rs):x.2.r<=bB rs/\x.2.t<=bH rs:={rM<|ae.2 ⟨x,a,ρ⟩,rM<|ae.2 ⟨x,a,ρ⟩}
theorem aE.ok{rs:Fl}(F:aE rs){x:eS×Ob}(a:x∈rs):x.2.ok:={(F.row x a).2.1,(F.row x a).2.2.2}
def aE.hit (F:aE rs)(d:0<=p)(h2:p<bB rs)(f:0<=q)(h4:q<bH rs):∃y∈rs,y.2.l<=p/\p<y.2.r/\y.2.b<=q/\q<y.2.t:=by
 let(o,ho,e):=filled (W:=(bB rs).toNat) (H:=(bH rs).toNat) (λo ho=>by
  let(x,c,rfl):=ae.1 ho;let a:=F.row x c;let b:=F.mG c;$({a.1,a.2.1,∅,a.2.2.1,a.2.2.2,∅})) (gd.2 F.ap) (by
  rw[eX];let:=F.ar;unfold eZ at this;rw[show(Ob.area ∘ λx:eS×Ob=>x.2)=λx=>x.2.area from ρ,this,aa3 (by lia),aa3 (by lia)]) d (by lia) f (by lia)
 let(x,c,rfl):=ae.1 ho;$(⟨x,c,e⟩)
theorem jQ{b:Type}{R:b->b->Prop}{l:List b}(h:l.Pairwise R){x y:b}(d:x∈l)(a:y∈l):x=y\/R x y\/R y x:=by
 induction h with
 |nil=>$$$d
 |cons e _ f =>
  let rfl||c:=eW.1 d
  .let rfl||a:=eW.1 a
   .$(ι ρ)
   $(τ<|ι<|e y a)
  let rfl||a:=eW.1 a
  .$(τ<|τ<|e x c)
  $(f c a)
def fy(rs:Fl)(x:Ob)(k:Nat):Prop:=if k=0 then x.t=bH rs else if k=1 then x.r=bB rs else if k=2 then x.b=0 else x.l=0
instance (rs:Fl) (x:Ob) (k:Nat):Decidable (fy rs x k):=by$$(fy);infer_instance
def aE.inner (F:aE rs)(f:x∈rs)(g:k<4)(h:¬fy rs x.2 k):gE rs x.2 k≠[]:=by
 let a:=F.row x f;let b:=F.mG f;let key:∃y∈rs,bM k x.2 y.2=bi:=by
  let g:k=0\/k=1\/k=2\/k=3:=by lia
  let rfl||rfl||rfl||rfl:=g
  .let h:¬x.2.t=bH rs:=h;let(y,d,e):=F.hit (p:=x.2.l) (q:=x.2.t) ∅ ∅ ∅ (by lia);$({y,d,?_});let c:y.2.b=x.2.t:=by
    let rfl||z||z:=jQ F.ap f d
    .$_
    grind [Apart];grind [Apart]
   show(bd (y.2.b=x.2.t)&&(bd (x.2.l<y.2.r)&&bd (y.2.l<x.2.r)))=bi;lia
  .let h:¬x.2.r=bB rs:=h;let(y,d,e):=F.hit (p:=x.2.r) (q:=x.2.b) ∅ (by lia) ∅ ∅;$({y,d,?_});let c:y.2.l=x.2.r:=by
    let rfl||z||z:=jQ F.ap f d
    .$_
    grind [Apart];grind [Apart]
   show(bd (y.2.l=x.2.r)&&(bd (x.2.b<y.2.t)&&bd (y.2.b<x.2.t)))=bi;lia
  .let h:¬x.2.b=0:=h;let(y,d,e):=F.hit (p:=x.2.l) (q:=x.2.b-1) ∅ ∅ (by lia) ∅;$({y,d,?_});let c:y.2.t=x.2.b:=by
    let rfl||z||z:=jQ F.ap f d
    .$_
    grind [Apart];grind [Apart]
   show(bd (y.2.t=x.2.b)&&(bd (x.2.l<y.2.r)&&bd (y.2.l<x.2.r)))=bi;lia
  let h:¬x.2.l=0:=h;let(y,d,e):=F.hit (p:=x.2.l-1) (q:=x.2.b) (by lia) ∅ ∅ ∅;$({y,d,?_});let c:y.2.r=x.2.l:=by
   let rfl||z||z:=jQ F.ap f d
   .$_
   grind [Apart];grind [Apart]
  show(bd (y.2.r=x.2.l)&&(bd (x.2.b<y.2.t)&&bd (y.2.b<x.2.t)))=bi;lia
 simp![gE]
def aE.outer (F:aE rs)(hx:x∈rs)(c:k<4)(h:fy rs x.2 k):gE rs x.2 k=[]:=by
 delta gE;rw[tz,List.filter_eq_nil_iff];ext y d z;let a:=F.row y d;let b:=F.mG d;let c:k=0\/k=1\/k=2\/k=3:=by lia
 let rfl||rfl||rfl||rfl:=c
 .let h:x.2.t=bH rs:=h;let z:(bd (y.2.b=x.2.t)&&_)=bi:=z;lia
 .let h:x.2.r=bB rs:=h;let z:(bd (y.2.l=x.2.r)&&_)=bi:=z;lia
 .let h:x.2.b=0:=h;let z:(bd (y.2.t=x.2.b)&&_)=bi:=z;lia
 let h:x.2.l=0:=h;let z:(bd (y.2.r=x.2.l)&&_)=bi:=z;lia
def aE.nodup (F:aE rs)(x:Ob)(f:k<4):((gE rs x k).map (·.1)).Nodup:=by
 $$(gE);rw[eX];apply gd.2;let h:rs.Pairwise λy z=>bM k x y.2=bi->bM k x z.2=bi->cO k y.2≠cO k z.2:=by
  $(aaF (λ{y z} g hz ap c d e=>?_) F.ap);let a:=F.row y g;let b:=F.row z hz;unfold Apart at ap;let f:k=0\/k=1\/k=2\/k=3:=by lia
  let rfl||rfl||rfl||rfl:=f
  .let c:(bd (y.2.b=x.t)&&_)=bi:=c;let d:(bd (z.2.b=x.t)&&_)=bi:=d;let e:y.2.l=z.2.l:=e;lia
  .let c:(bd (y.2.l=x.r)&&_)=bi:=c;let d:(bd (z.2.l=x.r)&&_)=bi:=d;let e:- y.2.b=- z.2.b:=e;lia
  .let c:(bd (y.2.t=x.b)&&_)=bi:=c;let d:(bd (z.2.t=x.b)&&_)=bi:=d;let e:- y.2.l=- z.2.l:=e;lia
  let c:(bd (y.2.r=x.l)&&_)=bi:=c;let d:(bd (z.2.r=x.l)&&_)=bi:=d;let e:y.2.b=z.2.b:=e;lia
 grind
def aE.pos (F:aE rs):0<bB rs/\0<bH rs:=by let(x,c):=aaX rs F.ne;let a:=F.row x c;let b:=F.mG c;lia
def lI(rs:Fl)(k:Nat):Ob:=if k=0 then{0,bH rs,bB rs,bH rs+1}else if k=1 then{bB rs,0,bB rs+1,bH rs}else if k=2 then{0,-1,bB rs,0}else{-1,0,0,bH rs}
def Np (F:aE rs)(v:x∈rs)(d:k<4):di x.2 (dc rs) k=if fy rs x.2 k then[(cO k<|lI rs k,az k)]else[]:=by
 let a:=F.row x v;let b:=F.mG v;let p:=F.pos;let key:∀j,j<4->(bd (gv x.2 (lI rs j)=al k)=(bd (j=k)&&bd (fy rs x.2 k))):=by
  ext j f;rw[ph,e8,decide_eq_true_eq,decide_eq_true_eq,decide_eq_true_eq];let ok:(lI rs j).ok:=by
   let f:j=0\/j=1\/j=2\/j=3:=by lia
   let rfl||rfl||rfl||rfl:=f
   .exact{show(0:Int)<bB rs by$_,show bH rs<bH rs+1 by lia}
   .exact{show bB rs<bB rs+1 by lia,show(0:Int)<bH rs by$_}
   .exact{show(0:Int)<bB rs by$_,show(-1:Int)<0 by$_}
   exact{show(-1:Int)<0 by$_,show(0:Int)<bH rs by$_}
  rw[sV (F.ok v) ok d];let f:j=0\/j=1\/j=2\/j=3:=by lia
  let d:k=0\/k=1\/k=2\/k=3:=by lia
  let m:x.2.l<bB rs/\0<x.2.r/\x.2.b<bH rs/\0<x.2.t:=∅
  let n:¬0=x.2.t/\¬-1=x.2.t/\¬0=x.2.r/\¬-1=x.2.r:=∅
  let s:¬bH rs=x.2.b/\¬bH rs+1=x.2.b/\¬bB rs=x.2.l/\¬bB rs+1=x.2.l:=∅
  clear a b p;let no:∀{c:Prop} [Decidable c] {o:Bool}{A B:Prop},¬c->¬A->((decide c&&o)=bi↔A/\B):=λh g=>by simp[h,g]
  let u:∀{a b:Int}{p q A:Prop} [Decidable p] [Decidable q],p->q->A->((bd (a=b)&&(decide p&&decide q))=bi↔A/\b=a):=λh g i=>by simp[h,g,i,eq_comm]
  let rfl||rfl||rfl||rfl:=f<;>let rfl||rfl||rfl||rfl:=d<;>first|$(u m.1 m.2.1 ρ)|$(u m.2.2.1 m.2.2.2 ρ)|$(no n.1 nofun)|$(no n.2.1 nofun)|$(no n.2.2.1 nofun)|$(no n.2.2.2 nofun)|$(no s.1 nofun)|$(no s.2.1 nofun)|$(no s.2.2.1 nofun)|$(no s.2.2.2 nofun)
 let z:(dc rs).filter (λy=>bd<|gv x.2 y.2=al k)=if fy rs x.2 k then[(az k,lI rs k)]else[]:=by
  let e:dc rs=[(az 0,lI rs 0),(az 1,lI rs 1),(az 2,lI rs 2),(az 3,lI rs 3)]:=ρ;rw[e];simp?[zb,List.filter_nil,key 0 ⋯,key 1 ⋯,key 2 ⋯,key 3 ⋯];let d:k=0\/k=1\/k=2\/k=3:=by lia
  ext(w:fy rs x.2 k)
  .simp?[decide_eq_true w,if_pos w];let rfl||rfl||rfl||rfl:=d<;>rfl
  simp!
 unfold di;rw[z];split<;>rfl
def Fv (F:aE rs)(a:x∈rs)(b:k<4):di x.2 (rs++dc rs) k=if fy rs x.2 k then[(cO k<|lI rs k,az k)]else gE rs x.2 k:=by
 let c:di x.2 (rs++dc rs) k=di x.2 rs k++di x.2 (dc rs) k:=by simp[di]
 let d:di x.2 rs k=gE rs x.2 k:=by
  unfold di gE;congr 1;$(aca λy e=>?_)
  rw[ph,decide_eq_true_eq];$(sV (F.ok a) (F.ok e) b)
 simp?[c,d,Np F a b];ext(h:fy rs x.2 k)
 .rw[if_pos h,if_pos h,F.outer a b h];rfl
 simp!
def ve (F:aE rs)(a:x∈rs)(b:k<4):(cV<|di x.2 (rs++dc rs) k).map (·.2)=cb rs x.2 k:=by
 rw[Fv F a b];delta cb;ext(h:fy rs x.2 k)
 .rw[if_pos h,if_pos<|F.outer a b h];delta cV;simp
 rw[if_neg h,if_neg<|F.inner a b h]
theorem qU (F:aE rs)(a:x∈rs):gw rs x=dH rs x.2 4:=by
 let:∀n,n<=4->(cP x.2 (rs++dc rs) n).map (·.2)=dH rs x.2 n:=by
  ext n;induction n with
  |zero=>ext _;rfl
  |succ n b=>ext h;simp?[A8,pW,fv,b ⋯,<-ve F a (show n<4 by$_),eX];rfl
 $(this 4<|eT _)
theorem aE.Fx{rs:Fl}(F:aE rs):QM rs:=by
 refine{F.ne,F.nd,F.bI,?_,?_,?_}
 .refine λp _=>MF ?_ (gd.2 F.ap) p;ext o ho;let(x,a,rfl):=ae.1 ho;$(F.ok a)
 .ext x a k b;rw[Fv F a b];split
  .simp
  exact F.nodup x.2 b
 ext x a z;let:=qU F a;unfold gw at this;rw[z]at this;$(MH rs x.2 this.symm)
def aE.some (F:aE rs)(x:Ob):u5 rs x:=λ_ a=>F.nodup x a
section
variable{P:hZ}{w:nL}{K:f'}{mg:eS->Option cm}{base:nk}
def Ox(o:Ob):Dat:=.U [.int o.l,.int o.b,.int o.r,.int o.t]
def tG (h:eF x=bi):bj x:=by delta eF at h;simp?[e8,decide_eq_true_eq]at h;let(((h0,h1),b),_):=h;$({?_,by lia});rw[ac3];ext a c;let:=kz.1 b a<|abA.2 c;unfold iK at this;lia
def wZ (h:∀x∈rs,x<=W)(hw:W∈rs):fI rs=W:=by let h1:=rM hw;let h2:=h _<|oE (λz=>by rw[z]at hw;$$$hw);lia
def zx(x)(o):gN (.U [.str x]) (Ox o)=al (.D<|ai (x,o)):=by rfl
def WT(a):dh a a=bi:=mX.2<|abe _
def VD(l):∃A B,l=A++B/\nU l=B++A:=by
 delta nU;split
 .rename_i i _;$({l.take i,l.drop i,(R' i l).symm,ρ})
 $({[],l,ρ,⋯})
def lJ(k:Nat)(a b:eS×Ob):Bool:=bd<|cO k a.2<=cO k b.2
def nD(rs:Fl)(x:Ob)(k:Nat):Fl:=rs.filter λy=>bM k x y.2
def Iy(rs)(x)(k):cb rs x k=if nD rs x k=[]then[az k]else((nD rs x k).mergeSort (lJ k)).map (·.1):=by let e:((nD rs x k).map λy=>(cO k y.2,y.1)).mergeSort (λa b=>bd<|a.1<=b.1)=((nD rs x k).mergeSort (lJ k)).map λy=>(cO k y.2,y.1)  :=(aan (r:=lJ k) (s:=λa b:Int×eS=>bd<|a.1<=b.1) (f:=λy:eS×Ob=>(cO k y.2,y.1)) λa _ b _=>rfl).symm;show(if(nD rs x k).map (λy=>(cO k y.2,y.1))=[]then _ else(((nD rs x k).map λy=>(cO k y.2,y.1)).mergeSort (λa b=>bd<|a.1<=b.1)).map (·.2))=_;rw[e,eX];simp;rfl
def B0(rs)(x):dH rs x 4=cb rs x 0++cb rs x 1++cb rs x 2++cb rs x 3:=by simp?[pW,pW,pW];rfl
def rK (h:n∈cb rs x k):n=az k\/∃y∈rs,bM k x y.2=bi/\n=y.1:=by
 rw[Iy]at h;$$$$$h
 .$(ι<|kn.1 h)
 let(y,a,rfl):=ae.1 h;let:=hG.1<|afl.1 a;$(τ ⟨y,this.1,this.2,ρ⟩)
def aE.iU (F:aE rs)(c:y∈rs)(hz:z∈rs)(e:y.1=z.1):y=z:=by
 let:rs.Pairwise λa b=>a.1≠b.1:=gd.1 F.nd;let h||h||h:=jQ this c hz
 .$h
 simp!;$(absurd e.symm h)
theorem uQ(k:Nat):eF (az k)=bn:=by
 delta az;split
 .decide +kernel
 split
 .decide +kernel
 split<;>decide +kernel
def qL (c:j<4)(d:k<4)(h:az j=az k):j=k:=by
 let key:∀a b:Fin 4,az a.val=az b.val->a=b:=by decide +kernel
 $(congrArg Fin.val<|key ⟨j,c⟩ ⟨k,d⟩ h)
def aE.xg (F:aE rs)(x:Ob)(k:Nat):(cb rs x k).Nodup:=by
 rw[Iy];split
 .$(acr _ _)
 apply((gk (nD rs x k)<|lJ k).map (·.1)).nodup_iff.2;$(md (List.filter_sublist.map _) F.nd)
def aE.oR (F:aE rs)(h:x∈rs)(i:j<4)(l:k<4)(d:j≠k)(n:a∈cb rs x.2 j)(o:b∈cb rs x.2 k):a≠b:=by
 ext e;$$e;let f||(y,c,p,f):=rK n<;>let g||(z,hz,q,g):=rK o
 .$(d<|qL i l<|f.symm.trans g)
 .let:=F.nm z hz;simp![uQ]
 .let:=F.nm y c;grind [uQ]
 let:=F.iU c hz<|f.symm.trans g;$$this;let m:=(sV (F.ok h) (F.ok c) l).2 q;rw[(sV (F.ok h) (F.ok c) i).2 p]at m;$(d<|Option.some.inj m)
def aE.u4 (F:aE rs)(e:x∈rs):(dH rs x.2 4).Nodup:=by
 rw[B0,ka,ka,ka];$({{{F.xg _ _,F.xg _ _,λa c b d=>F.oR e ⋯ ⋯ ⋯ c d},F.xg _ _,λa c b d=>?_},F.xg _ _,λa c b d=>?_})
 .let c||c:=eK.1 c
  .$(F.oR e ⋯ ⋯ ⋯ c d)
  $(F.oR e ⋯ ⋯ ⋯ c d)
 let c||c:=eK.1 c
 .let c||c:=eK.1 c
  .$(F.oR e ⋯ ⋯ ⋯ c d)
  $(F.oR e ⋯ ⋯ ⋯ c d)
 $(F.oR e ⋯ ⋯ ⋯ c d)
def L8(x y):bM 0 x y=bi↔y.b=x.t/\x.l<y.r/\y.l<x.r:=by simp[bM,dP]
def KN(x y):bM 1 x y=bi↔y.l=x.r/\x.b<y.t/\y.b<x.t:=by simp[bM,dP]
def VZ(x y):bM 2 x y=bi↔y.t=x.b/\x.l<y.r/\y.l<x.r:=by simp[bM,dP]
def Xo(x y):bM 3 x y=bi↔y.r=x.l/\x.b<y.t/\y.b<x.t:=by simp[bM,dP]
def gO(c:Int)(o:Ob):Ob:={c*o.l,c*o.b,c*o.r,c*o.t}
variable{rs:Fl}
theorem OR{a:Type}{l:List a}{f g:a->Int}(h:∀x∈l,f x=g x):(l.map f).sum=(l.map g).sum:=by rw[t9 h]
theorem CN{b:Type}(c:Int)(f:b->Int):∀l:List b,(l.map λx=>c*f x).sum=c*(l.map f).sum
 |[]=>by simp
 |a::l=>by rw[hH,hH,aa5,aa5,CN c f l,Int.mul_add]
theorem E7{a:Ob->Ob}:(rs.map λy=>(y.1,a y.2)).map (·.1)=rs.map (·.1):=by rw[eX];rfl
theorem aE.OS(F:aE rs){T:eS×Ob->eS×Ob}(h:∀x y:eS×Ob,Apart x.2 y.2->Apart (T x).2 (T y).2):(rs.map T).Pairwise λx y=>Apart x.2 y.2 :=
 gd.2 (F.ap.imp λ{x y} a=>h x y a)
theorem IA{l:List Int}(hl:l≠[]){c:Int}(a:0<=c):fI (l.map λx=>c*x)=c*fI l:=wZ (λz hz=>by let(y,b,rfl):=ae.1 hz;$(abE (rM b) a))<|ae.2 ⟨_,oE hl,ρ⟩
theorem aE.O9(F:aE rs)(h:∀x∈rs,x.2.r<2 ^ 95/\x.2.t<2 ^ 95):gX rs:={λx c=>tG<|F.nm x c,λx c=>by let a:=F.row x c;let b:=h x c;$_,by let:=F.bI;$_}
end
def dz(rs:Fl):Ob:={0,0,bB rs,bH rs}
def allR(rs:Fl):Fl:=rs++dc rs
def DM(rs):dc rs=[(az 0,wall (dz rs) 0),(az 1,wall (dz rs) 1),(az 2,wall (dz rs) 2),(az 3,wall (dz rs) 3)]:=ρ
def vG(rs):(allR rs).map (·.2)=rs.map (·.2)++walls (dz rs):=by delta allR;rw[fv,DM];rfl
def Fo (F:aE rs):(dz rs).ok:=⟨F.pos.1,F.pos.2⟩
def DC (a:k<4):Up (af k x) (af k y)↔bM k x y=bi:=by
 let a:k=0\/k=1\/k=2\/k=3:=by lia
 let rfl||rfl||rfl||rfl:=a<;>simp[Up,af,au,bM,dP]<;>lia
theorem Fk(p):∀(rs:Fl),(rs.filter λy=>bd<|p∈dy y.2).length<=(oF rs).count p
 |[]=>eT _
 | y::rs=>by
  let ih:=Fk p rs;let e:oF (y::rs)=dy y.2++oF rs:=ρ;simp[e];ext(h:p∈dy y.2)
  .rw[List.filter_cons_of_pos (by$$$$h),g8];let:=afo.2 h;lia
  rw[List.filter_cons_of_neg (by$$$$h)];lia
def aE.P5 (F:aE rs)(hm:tX rs=bn):aH (dz rs) (rs.map (·.2)) where
 aU:=λo ho=>by let(x,c,rfl):=ae.1 ho;let a:=F.row x c;let b:=F.mG c;$(⟨a.1,a.2.1,b.1,a.2.2.1,a.2.2.2,b.2⟩)
 ap:=λa l b s=>by
  let(x,c,rfl):=ae.1 l;let(y,d,rfl):=ae.1 s;let e||e||e:=jQ F.ap c d
  .$(ι (by rw[e]))
  .$(τ e)
  $(τ e.symm)
 hit:=λp q u v w A=>by let(y,d,h):=F.hit u v w A;$({y.2,ae.2 ⟨y,d,ρ⟩,h})
 four:=λx c n B m k z hz h=>by
  let(x,f,rfl):=ae.1 c;let(n,g,rfl):=ae.1 B;let(m,i,rfl):=ae.1 k;let(z,j,rfl):=ae.1 hz;let rn:=F.row n g;let rm:=F.row m i;let rz:=F.row z j;delta tX at hm;rw[decide_eq_false_iff_not]at hm;let(C,D,E,G,H,I):=h;let key:=Fk (x.2.r,x.2.t) rs;let J:[x,n,m,z].length<=(rs.filter λy=>bd<|(x.2.r,x.2.t)∈dy y.2).length:=by
   $(YP ?_ ?_)
   .let K:x≠n:=λe=>by$$e;lia
    let L:x≠m:=λe=>by$$e;$_
    let M:x≠z:=λe=>by$$e;$_
    let N:n≠m:=λe=>by$$e;$_
    let O:n≠z:=λe=>by$$e;$_
    let P:m≠z:=λe=>by$$e;lia
    simp[K,L,M,N,O,P]
   ext y d;rw[hG,decide_eq_true_eq];simp at d;let rfl||rfl||rfl||rfl:=d
   .$({f,by simp[dy]})
   .$({g,by simp[dy,C,D]})
   .$({i,by simp[dy,E,G]})
   $({j,by simp[dy,H,I]})
  simp?[g8,aaw]at J;$(hm {(x.2.r,x.2.t),afo.1 ∅,∅})
def aE.FT (F:aE rs):((allR rs).map (·.2)).Nodup:=by
 rw[vG,ka];$({?_,?_,?_})
 .$(gd.2 (F.ap.imp_of_mem λ{x y} c hy h e=>?_));let a:=F.row x c;grind [Apart]
 .let i:∀{j k:Nat},j<4->k<4->j≠k->wall (dz rs) j≠wall (dz rs) k:=λg m d e=>d (lV (Fo F) g m e);let e:walls (dz rs)=[wall (dz rs) 0,wall (dz rs) 1,wall (dz rs) 2,wall (dz rs) 3]:=ρ;simp!
 ext a n b f e;$$e;let(x,c,rfl):=ae.1 n;let r:=F.row x c;let b:=F.mG c;simp[walls]at f;let h||h||h||h:=f<;>(let o:=congrArg Ob.l h;let p:=congrArg Ob.b h;let q:=congrArg Ob.r h;let s:=congrArg Ob.t h;dsimp[wN,wE,wS,wW,dz]at o p q s;$_)
def nc:y∈allR rs↔y∈rs\/∃k,k<4/\y=(az k,wall (dz rs) k):=by
 delta allR;rw[eK,DM];apply or_congr Iff.rfl;constructor
 .ext h;simp at h;let h||h||h||h:=h
  .$({0,⋯,h})
  .$({1,⋯,h})
  .$({2,⋯,h})
  $({3,⋯,h})
 ext⟨k,a,rfl⟩;let a:k=0\/k=1\/k=2\/k=3:=by lia
 grind
def aE.K5 (F:aE rs)(a:y∈allR rs)(hz:z∈allR rs)(e:y.1=z.1):y=z:=by
 let a||(j,b,rfl):=nc.1 a<;>let hz||(k,c,rfl):=nc.1 hz
 .$(F.iU a hz e)
 .let:=F.nm y a;simp![uQ]
 .let:=F.nm z hz;rw[<-e,uQ]at this;lk
 let:=qL b c e;$$this;rfl
def oW(rs:Fl)(o:Ob):Str:=(((allR rs).find? λy=>bd<|y.2=o).map (·.1)).getD ""
theorem aE.ou (F:aE rs)(b:y∈allR rs):oW rs y.2=y.1:=by
 delta oW;cases e:(allR rs).find? λz=>bd (z.2=y.2)with
 |none=>let:=aao.1 e y b;simp at this
 |some z =>
  let c:=z7 e;let a:=aa7 e;let a:z.2=y.2:=by$$$$a
  let nd:=F.FT;let:z=y:=by
   let q||q||q:=jQ (gd.1 nd) c b
   .$q
   simp!;$(absurd a.symm q)
  rw[this];rfl
def aE.Ai (F:aE rs)(b:y∈allR rs):y.2.ok:=by
 let hp:=F.pos;let h||(j,a,rfl):=nc.1 b
 .$(F.ok h)
 let a:j=0\/j=1\/j=2\/j=3:=by lia
 let rfl||rfl||rfl||rfl:=a
 .$({show(0:Int)<bB rs by$_,show bH rs<bH rs+1 by lia})
 .$({show bB rs<bB rs+1 by lia,show(0:Int)<bH rs by$_})
 .$({show(0:Int)<bB rs by$_,show(-1:Int)<0 by$_})
 $({show(-1:Int)<0 by$_,show(0:Int)<bH rs by$_})
def aE.EL (F:aE rs)(a:y∈rs)(c:k<4):Apart y.2 (wall (dz rs) k):=by
 let r:=F.row y a;let b:=F.mG a;let c:k=0\/k=1\/k=2\/k=3:=by lia
 let rfl||rfl||rfl||rfl:=c<;>simp[Apart,wall,wN,wE,wS,wW,dz]<;>$_
def aE.Pd (F:aE rs)(c:y∈allR rs)(hz:z∈allR rs):y=z\/Apart y.2 z.2:=by
 let hp:=F.pos;let h||(j,a,rfl):=nc.1 c<;>let h'||(k,b,rfl):=nc.1 hz
 .let e||e||e:=jQ F.ap h h'
  .$(ι e)
  .$(τ e)
  $(τ e.symm)
 .$(τ<|F.EL h b)
 .$(τ (F.EL h' a).symm)
 let b:k=0\/k=1\/k=2\/k=3:=by lia
 let a:j=0\/j=1\/j=2\/j=3:=by lia
 let rfl||rfl||rfl||rfl:=a<;>let rfl||rfl||rfl||rfl:=b<;>first|$(ι ρ)|(right;simp[Apart,wall,wN,wE,wS,wW,dz];done)|(right;simp[Apart,wall,wN,wE,wS,wW,dz];$_)
def aE.vE (F:aE rs)(m:x∈rs)(d:k<4):cb rs x.2 k=(bR ((allR rs).map (·.2)) x.2 k).map (oW rs):=by
 let j:=ve F m d;let o:(allR rs).filter (λy=>bd<|gv x.2 y.2=Option.some k)=(allR rs).filter λy=>bd (Up (af k x.2)<|af k y.2):=aca λy c=>decide_eq_decide.2<|(sV (F.ok m) (F.Ai c) d).trans (DC d).symm;let g:∀y∈(allR rs).filter (λy=>bd<|Up (af k x.2)<|af k y.2),y∈allR rs/\bM k x.2 y.2=bi:=λy c=>by let(p,q):=hG.1 c;$({p,(DC d).1 (of_decide_eq_true q)})
 change((((allR rs).filter λy=>bd<|gv x.2 y.2=Option.some k).map λy=>(cO k y.2,y.1)).mergeSort λa b=>bd<|a.1<=b.1).map (·.2)=_ at j;rw[o]at j;rw[<-j];$$(bR);let t:((allR rs).map (·.2)).filter (λy=>bd<|Up (af k x.2)<|af k y)=((allR rs).filter λy=>bd<|Up (af k x.2)<|af k y.2).map (·.2):=agc;rw[t];generalize hL:(allR rs).filter (λy=>bd<|Up (af k x.2)<|af k y.2)=L at g;let n:∀a∈allR rs,∀b∈allR rs,bM k x.2 a.2=bi->bM k x.2 b.2=bi->(cO k a.2<=cO k b.2↔(af k a.2).l<=(af k b.2).l):=λa h b i qa qb=>by
  let e||e:=F.Pd h i;simp!;let o1:=F.Ai h;let o2:=F.Ai i;unfold Apart at e;unfold Ob.ok at o1 o2;let d:k=0\/k=1\/k=2\/k=3:=by lia
  let rfl||rfl||rfl||rfl:=d<;>simp[cO,bM,dP,af,au]at *<;>$_
 let u:(L.map λy=>(cO k y.2,y.1)).mergeSort (λa b=>bd<|a.1<=b.1)=(L.mergeSort<|lJ k).map λy=>(cO k y.2,y.1):=(aan (r:=lJ k) (s:=λa b:Int×eS=>bd<|a.1<=b.1) (f:=λy:eS×Ob=>(cO k y.2,y.1)) λa _ b _=>rfl).symm
 let v:(L.map (·.2)).mergeSort (λa b=>bd<|(af k a).l<=(af k b).l)=(L.mergeSort<|lJ k).map (·.2):=(aan λa h b i=>by$$(lJ);$(decide_eq_decide.2<|n a (g a h).1 b (g b i).1 (g a h).2 (g b i).2)).symm
 simp?[u,v,eX];$(t9 λy c=>?_);$((F.ou<|(g y<|afl.1 c).1).symm)
def aE.Md (F:aE rs)(a:x∈rs):dH rs x.2 4=(bC (rs.map (·.2)++walls (dz rs)) x.2).map (oW rs):=by rw[B0,F.vE a ⋯,F.vE a ⋯,F.vE a ⋯,F.vE a ⋯,vG];delta bC;simp?[fv]
def dX(web:List (eS×List eS))(n:eS):List Str:=((web.find? λp=>bd<|p.1=n).map (·.2)).getD []
def jV(a b:eS):Bool:=!dh b a
theorem C7:Order jV where
 gB:=λa=>by$$(jV);rw[WT];rfl
 tr:=λa b c d e=>by
  delta jV at *;simp?[pe]at *;cases h:dh c a with
  |false=>rfl
  |true=>let t:=AH b a;rw[d,agF]at t;rw[zf _ _ _ h t]at e;lk
 cp:=λa b h=>by
  delta jV;cases d:dh b a with
  |false=>$(ι ρ)
  |true =>
   cases e:dh a b with
   |false=>$(τ ρ)
   |true=>$(absurd ((λc d=>l7<|abr (XP.1<|mX.1 c)<|XP.1<|mX.1 d) e d) h)
theorem fE (nd:(web.map (·.1)).Nodup)(a:p∈web):dX web p.1=p.2:=by
 delta dX;cases e:web.find? λz=>bd (z.1=p.1)with
 |none=>let:=aao.1 e p a;simp at this
 |some z =>
  let b:=z7 e;let c:z.1=p.1:=by$$$$(aa7 e)
  let:z=p:=by
   let q||q||q:=jQ (gd.1 nd) b a
   .$q
   simp!;$(absurd c.symm q)
  rw[this];rfl
def Hq(l):i7 l (nU l):=by let(A,B,a,b):=VD l;$(⟨A,B,a,b⟩)
def fX(web:List (eS×List eS)):Prop:=qO (web.map (·.1)) az (dX web) jV
def aE.AI (F:aE rs)(hm:tX rs=bn)(g:web.Perm (rs.map λy=>(y.1,nU<|dH rs y.2 4))):fX web:=by
 let T:=F.P5 hm;let nd:=F.FT;rw[vG]at nd;let d:∀{x:eS×Ob},x∈rs->x∈allR rs:=λh=>nc.2<|ι h;let l:(rs.map (·.2)).map (oW rs)=rs.map (·.1):=by rw[eX];$(t9 λx c=>F.ou<|d c)
 let m:(λk=>oW rs<|wall (dz rs) k)=az:=by
  funext k;ext(o:k<4)
  .$(F.ou<|nc.2<|τ ⟨k,o,ρ⟩)
  let q:wall (dz rs) k=wall (dz rs) 3:=by rw[wall,if_neg ∅,if_neg ∅,if_neg ∅];rfl
  let r:az k=az 3:=by delta az;rw[if_neg ∅,if_neg ∅,if_neg ∅];rfl
  simp?[q,r];$(F.ou<|nc.2<|τ ⟨3,⋯,ρ⟩)
 let ob:∀{a:Ob},a∈rs.map (·.2)++walls (dz rs)->∃y∈allR rs,y.2=a:=λ{a} h=>by rw[<-vG]at h;$(ae.1 h)
 let i:=T.AI (ν:=oW rs) (Fo F) nd (λa f b s e=>by
  let(y,j,rfl):=ob f;let(z,hz,rfl):=ob s;simp?[F.ou j,F.ou hz]at e;rw[F.K5 j hz e]) (λa f=>by
  let(x,c,rfl):=ae.1 f;simp?[F.ou (d c),<-F.Md c];$(fE (p:=(x.1,dH rs x.2 4)) (by rw[eX];$F.nd)<|ae.2 ⟨x,c,ρ⟩)) C7
 rw[l,m]at i;let pn:(web.map (·.1)).Perm (rs.map (·.1)):=by let:=g.map (·.1);rwa[eX]at this
 $(i.turn pn λn t=>?_);let(x,c,rfl):=ae.1 t;simp?[fE (web:=rs.map λy=>(y.1,dH rs y.2 4)) (p:=(x.1,dH rs x.2 4)) (by rw[eX];$F.nd) (ae.2 ⟨x,c,ρ⟩),fE (p:=(x.1,nU<|dH rs x.2 4)) (pn.nodup_iff.2 F.nd)<|g.mem_iff.2<|ae.2 ⟨x,c,ρ⟩];$(Hq _)
local macro_rules | `(tactic| walk_at $s:str)=>Mq.go s "U@LY A|SY rarA~1@R1 ardrrrrA~0@TC hrVddrU|V6 rrarA|Vg rarA|AL rrrarA|Vo rarA|UU DD~T@SS hrVddrU|MR hrVddrU|Oa DD~I@Mx rarrA|Ou arVdd|KH arVdd|La a0~Z@Wv aNrLFrE|QG aNrLFr|Qr rVhddrDU|Yd wTS|K1"
section
variable{P:hZ}{w:nL}{K:f'}{mg:eS->Option cm}{base:nk}
abbrev E4:List Str:=["north","east","south","west"]
abbrev qP:Dat:=.U [.str "north",.str "east",.str "south",.str "west"]
def Bb(fn:aS):Prop:=∀k,k<4->fn [.str (az k)]=al (.D<|.str<|az<|(k+1)%4)
def Vq(T:Txt mg)(w1:fJ K mg "WALLS" qP)(w2:yt K mg "WALLS" E4)(F:bb K "follower" "follower" Ap f a):∃fn,aV P w K mg base bc 1 f a ["wall"] (aF K fn)/\Bb fn:=by
 $$$(bX F Iv ρ ?C ?B)
 case C=>$("h")
 ext k hk;let:k=0\/k=1\/k=2\/k=3:=by lia
 let rfl||rfl||rfl||rfl:=this<;>rfl
def T4(ns:List eS)(k:Nat):fQ (.L<|ns.map .str) (al (k:Int)) am=al (.O<|.L<|(ns.drop k).map .str):=by show al (Res.O<|.L<|cutD (ns.map Dat.str) (al (k:Int)) am)=_;rw[qm,aax]
def Rh(ns:List eS)(k:Nat):fQ (.L<|ns.map .str) am (al (k:Int))=al (.O<|.L<|(ns.take k).map .str):=by show al (Res.O<|.L<|cutD (ns.map Dat.str) am<|al (k:Int))=_;rw[sX,aby]
def dY (h:c Z=al (b,Z1))(hb:b=bn)(n:WS g Z1 Q):WS (lx (kj c s vL) g) Z Q :=
 ah (eI h (by simp!) λ_=>aP<|aq n)
def DV(fn:aS):Prop:=∀p:eS×List eS,eF p.1=bi->bj p.1->fn [pairD p]=al (.D<|.bl true)
def Mv(T:Txt mg)(g:ba P w K mg base "is_name" 1 (aF K c))(i:ya c)(F:bb K "is_pair" "is_pair" BC f d):∃fn,aV P w K mg base bc 2 f d ["thing"] (aF K fn)/\DV fn:=by
 $$$(bX F Ez ρ ?C ?B)
 case C=>$("h")
 ext p h j;let e:=i p.1 j;rw[h]at e;$$$(cE ρ ?w);$$$(dY ?a ρ ?b)
 case a=>$("v")
 $(ah<|bY (v_res<|xp (ag (aC ρ e) ρ) (by rfl)) ⟨_,ρ⟩)
def K0(room:eS)(ring names:List eS):Prop:=3<=ring.length/\ring.length<100/\(∀n∈ring,n∈names/\n≠room)/\ring.Nodup/\bj room/\(∀n∈ring,bj n)/\∀n∈names,bj n
def Eu(fn:aS):Prop:=∀(room:eS) (ring names:List eS),K0 room ring names->fn [.str room,.L<|ring.map .str,.L<|names.map .str]=al (.D<|.bl true)
def qK{ns:List eS}(a:∀x∈ns,bj x){m:eS}(hm:bj m)(neg:Bool):ij neg (.str m) (.L<|ns.map .str)=al (.D<|.bl (if neg then !bd (m∈ns)else bd (m∈ns))):=by
 rw[D5 hm.ok (λy b=>(a y b).ok)];let:(ns.any λy=>bd<|y=m)=bd (m∈ns):=by rw[ph];simp
 rw[this]
def ME (a:bj x)(b:bj y):dN true (.str x) (.str y)=al (.D<|.bl<|!bd (x=y)):=by rw[rB (mz a.ok) (mz b.ok),my]
def qq{a:Type}{enc:a->Dat}{caps:List (Option Nat)}{fi:IF}{g:GF}{fe:DF}{xs:List a}{Z Z1 Z2:DS}(put:a->DS)(b:fi Z=al (xs.map enc,Z1))(c:bA am caps Z1=Z2)(hz:xs.length<=c6)
 (d:∀x∈xs,∀Z,(Z=cz caps Z2\/∃y,Z=put y)->g (enc x) Z=al (put x))(e:∀x∈xs,fe (put x)=al (.bl true,put x))(f:∀x∈xs,noOwn (put x)=bi) :
  bT n8 (gz (ic<|fD caps am fi g (λZ=>al (true,Z)) fe) js) Z=al (.D<|.bl true,Z2):=by
 apply aC<|aa (ag (cX put (λ_=>.bl true) b c hz d e f) ρ) ak;let:=Cp (λ_:a=>true) xs;rw[show xs.all (λ_=>true)=bi from by simp]at this;$this
theorem Qp(T:Txt mg)(w3:fJ K mg "FEWEST_NEIGHBOURS" (.int 3))(hs:mg "set"=am){f:dn}{d:hO}(F:bb K "is_ring" "is_ring" BA f d):∃fn,aV P w K mg base bc 1 f d ["room","ring","names"] (aF K fn)/\Eu fn:=by
 $$$(bX F Ju ρ ?C ?B)
 case C=>let nd:=Ju.nd;$("h")
 ext room ring names ⟨h1,h2,e,j,k,g,l⟩;$$$(cE ρ ?w);let sz:ring.length<=sizeLine:=by$$(c6);lia
 $$$(dY ?a ?D ?L)
 case a=>$("v")
 case D=>simp;$_
 $$$(dY (i9<|fw (ag (qq (λn=>[.no,.D<|.str n,.D<|.L<|names.map .str,.D<|.str room]) (bP ρ) ρ sz ?G ?I ?J) ρ) ρ) ρ ?b)
 case G=>ext y hy Z hd;let rfl||(z,rfl):=hd<;>rfl
 case I=>ext n c;let h:=qK l (g n c) false;let i:=ME (g n c) k;rw[decide_eq_true (e n c).1]at h;rw[decide_eq_false (e n c).2]at i;$(xp (ag (ay ρ ρ h) ρ)<|ag (ay ρ ρ i) ρ)
 case J=>ext n c;rfl
 $(ah<|bY (ay (yL (λx=>x) ρ ∅) (iX ρ ρ) Jd)<|gK ?_);rw[abT,(xP ring).2 j,a8];$(decide_eq_true ρ)
def cJ:List Str:=[az 0,az 1,az 2,az 3]
structure cK (web:List (eS×List eS)):Prop where
 bI:1<=web.length/\web.length<=8
 nm:∀p∈web,eF p.1=bi
 nd:(web.map (·.1)).Nodup
 rg:∀p∈web,3<=p.2.length/\p.2.Nodup/\∀n∈p.2,(n∈web.map (·.1)\/n∈cJ)/\n≠p.1
def JY(fn:aS):Prop:=∀web:List (eS×List eS),cK web->fn [.L (web.map pairD)]=al (.D<|.bl true)
def o8:∀n∈cJ,bj n:=by ext n a;simp[cJ]at a;let rfl||rfl||rfl||rfl:=a<;>$({by decide +kernel,by decide +kernel})
def cK.txt (h:cK web)(a:n∈web.map (·.1)\/n∈cJ):bj n:=by
 let a||a:=a
 .let(p,b,rfl):=ae.1 a;$(tG<|h.nm p b)
 $(o8 n a)
theorem xU [DecidableEq b]:∀{l m:List b},l.Nodup->(∀x∈l,x∈m)->l.length<=m.length
 |[],_,_,_=>nT _
 |a::l,m,c,h=>by let d:=xU (l:=l) (m:=m.erase a) (qo.1 c).2 λx e=>(aeY λz=>by simp!).2 (h x<|fk _ e);rw[List.length_erase_of_mem (h a fm)]at d;let:=List.length_pos_of_mem<|h a fm;simp;lia
def cK.len (h:cK web)(b:p∈web):p.2.length<=12:=by
 let a:=(h.rg p b);let:p.2.length<=(web.map (·.1)++cJ).length:=by$(xU a.2.1 λn c=>eK.2 (a.2.2 n c).1)
 rw[eR,a8]at this;let:=h.bI;let:cJ.length=4:=ρ;lia
theorem Xd(T:Txt mg)(w1:fJ K mg "WALLS" qP)(w3:fJ K mg "MOST_ROOMS" (.int 8))(hs:mg "set"=am){e g:aS}(k:ba P w K mg base "is_pair" 2 (aF K e))(l:DV e)(m:ba P w K mg base "is_ring" 1 (aF K g))(o:Eu g){f:dn}{i:hO}(F:bb K "has_form" "has_form" Ab f i):∃fn,aV P w K mg base bc 3 f i ["web"] (aF K fn)/\JY fn:=by
 $$$(bX F Ga ρ ?C ?B)
 case C=>let nd:=Ga.nd;$("h")
 ext web h;$$$(cE ρ ?w);let hl:=h.bI;let sz:web.length<=sizeLine:=by$$(c6);lia
 $$$(dY ?a ?a2 ?a3)
 case a=>$("v")
 grind;$$$(dY (i9<|fw (ag (qq (enc:=pairD) (xs:=web) (λp=>[.no,.D<|pairD p]) (bP ρ) ρ sz ?D ?G ?I) ρ) ρ) ρ ?b)
 case D=>ext y j Z hd;let rfl||(z,rfl):=hd<;>rfl
 case G=>ext p c;let:=l p (h.nm p c)<|tG<|h.nm p c;$("v")
 case I=>ext n d;rfl
 show WS _ [.D (.L<|web.map pairD),.no,.no] _;$$$(ah (aN (Z2:=[.D (.L<|web.map pairD),.O (.L ((web.map (·.1)).map .str)),.no]) (cX (enc:=pairD) (xs:=web) (λp=>[.no,.D<|.str p.1,.D<|.L<|p.2.map .str]) (λp=>.str p.1) (bP ρ) ρ sz ?J ?L ?M) ?N<|aq ?O))
 case J=>ext y j Z hd;let rfl||(z,rfl):=hd<;>rfl
 case L=>ext p c;rfl
 case M=>ext p c;rfl
 case N=>rw[eX];rfl
 $$$(dY (bL (ay (yL (cs:=web.map (·.1)) (λx=>x) ρ ?d1) (iX ρ ρ)<|ne_int _ _)) ?Q ?R);grind
 case Q=>simp?[abT,(xP _).2 h.nd,a8];simp
 $$$(ah (aN (Z2:=[.D (.L<|web.map pairD),.D (.L ((web.map (·.1)).map .str)),.O (.L ((web.map (·.1)++cJ).map .str))]) (ay ρ (ag (aC (aa ρ ak) ρ) ρ)<|pU ?S) ?U<|aq ?V))
 case S=>simp[c6];lia
 case U=>rw[fv];rfl
 $$$(ah (bY (qq (enc:=pairD) (xs:=web) (λp=>[.no,.D<|.str p.1,.D<|.L<|p.2.map .str,.D (.L ((web.map (·.1)++cJ).map .str))]) (bP ρ) ρ sz ?W ?X ?Y) {_,ρ}))
 case W=>ext y j Z hd;let rfl||(z,rfl):=hd<;>rfl
 case Y=>ext p c;rfl
 ext p c;let r:=h.rg p c;let:=o p.1 p.2 (web.map (·.1)++cJ) {r.1,by let:=h.len c;lia,λn d=>{eK.2 (r.2.2 n d).1,(r.2.2 n d).2},r.2.1,tG<|h.nm p c,λn d=>h.txt (r.2.2 n d).1,λn d=>h.txt<|eK.1 d};$("v")
abbrev bp:=List<|eS×List eS
def dg(web:bp):List (eS×Dat):=web.map λp=>(p.1,.L<|p.2.map .str)
def bq(web:bp):Dat:=.cN<|dg web
def GQ{c:Type}{l:List (eS×c)}(nd:(l.map (·.1)).Nodup){p q:eS×c}(f:p∈l)(g:q∈l)(e:p.1=q.1):p=q:=by let(i,d):=aeQ.1 f;let(j,b):=aeQ.1 g;cases rP nd (a:=p.1) (by rw[dk,d];rfl) (j:=j) (by rw[dk,b,e];rfl);rw[d]at b;$(Option.some.inj b)
theorem mI (nd:(web.map (·.1)).Nodup)(a:p∈web):df (dg web) p.1=al (.L<|p.2.map .str):=by
 let e:(web.find? λq=>bd<|q.1=p.1)=al p:=by
  cases e:web.find? λq=>bd (q.1=p.1)with
  |none=>$(absurd (aao.1 e p a) ⋯)
  |some q=>let b:=z7 e;let c:=aa7 e;rw[GQ nd b a (by$$$$c)]
 delta df dg;rw[agk];show((web.find? λq=>bd<|q.1=p.1).map _).map _=_;rw[e];rfl
def Lo(web)(n):(df (dg web) n).isSome=bd (n∈web.map (·.1)):=by delta df dg;rw[ph];simp
def vi(web)(n)(neg):ij neg (.str n) (bq web)=al (.D (.bl (if neg then !bd (n∈web.map (·.1))else bd (n∈web.map (·.1))))):=by rw[<-Lo];rfl
def eC{a:Type}{l:List a}{k:Nat}{x:a}(h:l[k]?=al x):l.take (k+1)=l.take k++[x]:=by rw[aed,h];rfl
def HI(fn:aS):Prop:=∀web:bp,cK web->(∀p∈web,∀q∈web,q.1∈p.2->p.1∈q.2)->fn [bq web]=al (.D<|.bl true)
theorem Uv(T:Txt mg){f:dn}{o:hO}(F:bb K "ties_are_shared" "ties_are_shared" yV f o):∃fn,aV P w K mg base bc 1 f o ["rings"] (aF K fn)/\HI fn:=by
 $$$(bX F Fq ρ ?D ?B)
 case D=>let fz:jF "rings":=⟨trivial⟩;$("h")
 ext web h hs;$$$(cE ρ ?w);$$$(ah<|dD (λ_ Z=>∃g a,Fr g/\Fr a/\Z=[.D (bq web),g,a]) ρ ⟨_,_,ι ρ,ι ρ,ρ⟩ ?st ?C)
 case C=>ext _ ⟨g,a,r,b,rfl⟩;$(aq<|ah<|bY ρ ⟨_,ρ⟩)
 ext k x c _ ⟨g,a,r,b,rfl⟩;unfold dg at c;rw[eX,dk]at c;let(p,ep,rfl):=ft.1 c;let i:=eH ep;$({[.D (bq web),.D<|.str p.1,a],by let rfl||(d,rfl):=r<;>rfl,?_});$(ah<|dD (λ_ Z=>∃a,Fr a/\Z=[.D (bq web),.D<|.str p.1,a]) (bP<|kX ρ ρ<|mI h.nd i) ⟨_,b,ρ⟩ ?_ ?_)
 .ext j y t _ ⟨a,b,rfl⟩;rw[dk]at t;let(n,v,rfl):=ft.1 t;let z:=eH v;$({[.D (bq web),.D<|.str p.1,.D<|.str n],by let rfl||(d,rfl):=b<;>rfl,?_});ext(l:n∈web.map (·.1))
  .let(q,m,rfl):=ae.1 l;let e:=vi web q.1 false;rw[decide_eq_true l]at e;let u:=qK (λx c=>h.txt ((h.rg q m).2.2 x c).1) (h.txt<|ι<|ae.2 ⟨p,i,ρ⟩) true;rw[decide_eq_true (hs p i q m z)]at u;$(dY (v_and (bL<|ay ρ ρ e)<|Jf ρ<|bL<|ay ρ (kX ρ ρ<|mI h.nd m) u) ρ<|aP ⟨_,τ ⟨_,ρ⟩,ρ⟩)
  let e:=vi web n false;rw[decide_eq_false l]at e;$(dY (v_and (bL<|ay ρ ρ e)<|AA ρ ρ) ρ<|aP ⟨_,τ ⟨_,ρ⟩,ρ⟩)
 ext _ ⟨a,b,rfl⟩;$(aq<|aP ⟨_,_,τ ⟨_,ρ⟩,b,ρ⟩)
def eP(l:List (List eS))(k:List eS):List (List eS):=if k∈l then l else l++[k]
def cG(a:List (List eS)):List (List eS):=a.foldl eP []
def bw(l:List (List eS)):gV:=l.map (·,.bl true)
theorem Pg(l:List (List eS))(k:List eS):tZ (bw l) k (.bl true)=bw (eP l k):=by
 let e:(gg (bw l) k).isSome=bd (k∈l):=by dsimp[gg,bw];rw[ph];simp
 unfold tZ eP;rw[e];ext(h:k∈l);simp![bw];simp![bw]
def AD(l)(k):cG (l++[k])=eP (cG l) k:=by simp[cG]
theorem yu(l):(cG l).length<=l.length:=by
 let:∀(l a:List (List eS)),(l.foldl eP a).length<=a.length+l.length:=by
  ext l;induction l with
  |nil=>ext a;$(eT _)
  |cons k l b =>
   ext a;let h:=b<|eP a k;let:(eP a k).length<=a.length+1:=by$$(eP);split<;>simp
   simp;show(l.foldl eP<|eP a k).length<=_;lia
 let:=this l [];simp at this;$this
theorem vX(l):(∀k,k∈cG l↔k∈l)/\(cG l).Nodup:=by
 let:∀(l b:List (List eS)),b.Nodup->(∀k,k∈l.foldl eP b↔k∈b\/k∈l)/\(l.foldl eP b).Nodup:=by
  ext l;induction l with
  |nil=>ext b h;$({λk=>by simp,h})
  |cons a l f =>
   ext b h;let g:(eP b a).Nodup:=by
    delta eP;split
    .$h
    ext1 ha;rw[ka];$({h,⋯,λx hx y hy e=>by simp!})
   let(c,d):=f _ g;$({λk=>?_,d});show k∈l.foldl eP (eP b a)↔_;rw[c k];delta eP;split;grind;grind
 let(c,d):=this l [] aaL;$({λk=>by rw[show cG l=l.foldl eP []from ρ,c k];simp,d})
theorem Nx:∀{l:List (List eS)},l.Nodup->cG l=l:=by
 let:∀(l b:List (List eS)),(b++l).Nodup->l.foldl eP b=b++l:=by
  ext l;induction l with
  |nil=>ext b h;simp
  |cons a l ih=>ext b h;let ha:a∉b:=λz=>(ka.1 h).2.2 a z a fm ρ;simp![eP]
 ext l h;$(this l [] h)
def yR (h:f Z=al (.bl true,Z))(d:a Z=al (k,Z))(b:(Z[i]?).bind ownOf=al (false,.bh c<|bw l))(h3:l.length<1000):ud i a f Z=al (.next<|Z.set i<|.O<|.bh false<|bw<|eP l k):=by delta ud;simp[h];simp[b];rw[d];show((Z[i]?).bind ownOf).bind _=_;rw[b];show(if(bw l).length<c6 then _ else am)=_;rw[if_pos (by unfold bw c6;rw[a8];lia),Pg];rfl
def cx(web:bp):List (List eS):=web.flatMap λp=>(gP p.2).map λq=>[p.1,q.1,q.2]
def w8(fn:aS):Prop:=∀web:bp,cK web->fX web->fn [bq web]=al (.O<|.bh false<|bw<|cx web)
theorem Af (h:∀p∈web,p.2.length<=12):(cx web).length<=12*web.length:=by
 delta cx;induction web with
 |nil=>simp
 |cons p web a=>let h1:=a λq b=>h q<|fk _ b;let h2:=h p fm;simp?[ado,eR,a8,JF,g8];lia
def rO (nd:(web.map (·.1)).Nodup):cx web=(corners (web.map (·.1))<|dX web).map λc=>[c.1,c.2.1,c.2.2]:=by delta cx corners;rw[List.map_flatMap,List.flatMap_map];$(congrArg _ (t9 λp a=>?_));simp?[fE nd a,eX];rfl
def O6 (h:cK web)(hw:fX web):(cx web).Nodup:=by rw[rO h.nd];$(gd.2<|List.Pairwise.imp (λ{a b} n e=>n ?_)<|mo hw.C);lia
def XC (h:Z[i]?=al (.D<|.L<|ns.map .str))(hz:ns.length<=100):wJ (gz (eY i)<|gz (ic<|cI gN (ic<|jH (eY i) (jT<|fC<|.int 1) rj)<|ic<|jH (eY i) rj<|jT<|fC<|.int 1) js) Z=al ((gP ns).map λq=>.U [.str q.1,.str q.2],Z):=by
 let a:eY i Z=al (.L<|ns.map .str,Z):=by$$(eY);rw[h]
 let b:=T4 ns 1;let c:=Rh ns 1;delta wJ;rw[aa a (aa (ag (ay (ag (la a ρ b) ρ) (ag (uX a ρ c) ρ)<|pU (by$$(c6);simp;$_)) ρ) ak)];show al (pQ (ns.map .str)<|(ns.drop 1).map .str++(ns.take 1).map .str,Z)=_;delta pQ gP;rw[<-fv,List.zip_map,eX];rfl
theorem XR(T:Txt mg)(hz:mg "zip"=am){f:dn}{t:hO}(F:bb K "corners_of" "corners_of" B7 f t):∃fn,aV P w K mg base bc 1 f t ["rings"] (aF K fn)/\w8 fn:=by
 $$$(bX F Ds (n:=1) ρ ?I ?B)
 case I=>let nd:=Ds.nd;let fz:jF "rings":=⟨trivial⟩;let tp:lT "corners":=⟨trivial⟩;$("h")
 clear T F hz;ext web h hw;let hl:∀p∈web,p.2.length<=12:=λp m=>h.len m;let bI:=h.bI;$$$(cE ρ ?w);show WS _ [.D (bq web),.no,.no,.no,.no,.no] _;$$$(ah<|aN (Z2:=[.D (bq web),.O<|.bh false<|bw<|cG [],.no,.no,.no,.no]) ρ ρ<|aq ?_);$$$(ah<|dD (λk Z=>∃o l c e,Fr o/\Fr l/\Fr c/\Fr e/\Z=[.D (bq web),.O<|.bh false<|bw<|cG<|cx<|web.take k,o,l,c,e]) ρ ⟨_,_,_,_,ι ρ,ι ρ,ι ρ,ι ρ,ρ⟩ ?st ?C)
 case C=>ext _ ⟨o,l,c,e,u,v,g,i,rfl⟩;simp?[a8,show(dg web).length=web.length from a8 ..,lq,Nx<|O6 h hw];$(aq<|ah<|bY ρ ⟨_,ρ⟩)
 ext k x r _ ⟨o,l,c,e,u,v,g,i,rfl⟩;unfold dg at r;rw[eX,dk]at r;let(p,ep,rfl):=ft.1 r;let m:=eH ep;let hlp:=hl p m;let hk:=(cn.1 ep).1;let hz:=Af (web:=web.take k) λq J=>hl q<|abC J;rw[iW]at hz;$({[.D (bq web),.O<|.bh false<|bw<|cG<|cx<|web.take k,.D<|.str p.1,l,c,e],by let rfl||(d,rfl):=u<;>rfl,?_});$$$(ah<|aN (Z2:=[.D (bq web),.O<|.bh false<|bw<|cG<|cx<|web.take k,.D<|.str p.1,.D<|.L<|p.2.map .str,c,e]) (v_res<|kX ρ ρ<|mI h.nd m) ?a<|aq ?b)
 case a=>let rfl||(d,rfl):=v<;>rfl
 $(ah<|dD (λj Z=>∃c e,Fr c/\Fr e/\Z=[.D (bq web),.O<|.bh false<|bw<|cG (cx (web.take k)++((gP p.2).take j).map λq=>[p.1,q.1,q.2]),.D<|.str p.1,.D<|.L<|p.2.map .str,c,e]) (XC ρ (by lia)) ⟨_,_,g,i,by simp?[abc,abS,nS]⟩ ?_ ?_)
 .ext j y z _ ⟨c,e,g,i,rfl⟩;rw[dk]at z;let(q,eq,rfl):=ft.1 z;generalize D:cG (cx (web.take k)++((gP p.2).take j).map λq=>[p.1,q.1,q.2])=L;let G:L.length<1000:=by rw[<-D];$(xr (yu _) ?_);simp?[eR,a8,iW,JF];lia
  $({[.D (bq web),.O<|.bh false<|bw L,.D<|.str p.1,.D<|.L<|p.2.map .str,.D<|.str q.1,.D<|.str q.2],by let rfl||(d,rfl):=g<;>let rfl||(d,rfl):=i<;>rfl,?_});$(ah {_,yR (k:=[p.1,q.1,q.2]) ρ ρ ρ G,aq<|aP ⟨.D<|.str q.1,.D<|.str q.2,τ ⟨_,ρ⟩,τ ⟨_,ρ⟩,?_⟩});rw[eC eq,fv,<-pw];show _=[_,Slot.O<|.bh false<|bw<|cG<|_++[_],_,_,_,_];rw[AD,D];rfl
 ext _ ⟨c,e,g,i,rfl⟩;$(aq<|aP ⟨.D<|.str p.1,.D<|.L<|p.2.map .str,c,e,τ ⟨_,ρ⟩,τ ⟨_,ρ⟩,g,i,?_⟩);rw[eC ep,show cx (web.take k++[p])=cx (web.take k)++(gP p.2).map λq=>[p.1,q.1,q.2]from by$$(cx);simp,a8,lq]
def LN(l)(k):(gg (bw l) k).isSome=bd (k∈l):=by delta gg bw;rw[ph];simp
def yf (h:a Z=al (k,Z))(c:(Z[i]?).bind iE=al (.bh b<|bw l)):nY neg i a Z=al (.D<|.bl (if neg then !bd (k∈l)else bd (k∈l)),Z):=by delta nY;rw[h];show((Z[i]?).bind iE).bind _=_;rw[c,<-LN];rfl
def uj(n):fu n=bi↔n∈cJ:=by simp[fu,cJ,az,or_assoc]
def oK (h:k<4):az k∈cJ:=by grind [cJ]
def BP (h:n∈cJ):∃k,k<4/\n=az k:=by
 simp[cJ]at h;let rfl||rfl||rfl||rfl:=h
 .$({0,⋯,rfl})
 .$({1,⋯,rfl})
 .$({2,⋯,rfl})
 $({3,⋯,rfl})
def Dg(fn:aS):Prop:=∀(cs:List (List eS)) (x n m:eS),bj x->bj n->bj m->(∀k,k<4->n=az k->m∈cJ->m=az ((k+1)%4))->(n∉cJ->[n,m,x]∈cs)->(m∉cJ->[m,x,n]∈cs)->fn [.U [.str x,.str n,.str m],.bh true<|bw cs]=al (.D<|.bl true)
def K3(T:Txt mg)(w1:fJ K mg "WALLS" qP)(o:ba P w K mg base "follower" 1 (aF K c))(p:Bb c)(F:bb K "corner_closes" "corner_closes" BL f g):∃fn,aV P w K mg base bc 2 f g ["corner","corners"] (aF K fn)/\Dg fn:=by
 refine' bX F Hf ρ ?C ?B
 case C=>$("h")
 ext cs x n m tx i d q r t;$$$(cE ρ ?w);$$$(ah<|aN ρ ρ<|aq<|ah<|aN ρ ρ<|aq<|ah<|aN ρ ρ<|aq ?_);$(ah (eI (qM (bL<|ay ρ ρ<|qE i.ok false)<|bL<|ay ρ ρ<|qE d.ok false) (λh=>?_) λh=>aP<|aq ?_))
 .simp[uj]at h;let(k,j,rfl):=BP h.1;let e:=p k j;$(ah (bY (ay ρ (ag (aC (aa ρ ak) e) ρ)<|wQ d.ok (o8 _<|oK<|aat _ ⋯).ok)<|gK ?_));$(decide_eq_true<|q k j ρ h.2)
 refine' dY (qM (bL<|ay ρ ρ<|qE i.ok true)<|bL<|yf ρ ρ) ?a ?b
 case a =>
  ext(l:n∈cJ)
  .rw[(uj n).2 l];rfl
  rw[decide_eq_true (r l)];simp
 refine ah<|bY (v_res<|FH (ag (ay ρ ρ<|qE d.ok false) ρ)<|ag (yf ρ ρ) ρ)<|gK ?_;ext(hm:m∈cJ)
 .rw[(uj m).2 hm];rfl
 rw[decide_eq_true (t hm)];simp
def FD(fn:aS):Prop:=∀web:bp,cK web->fX web->fn [bq web]=al (.D<|.bl true)
def uA (h:cK web):[x,n,m]∈cx web↔x∈web.map (·.1)/\bS (dX web x) n m:=by
 rw[rO h.nd,<-gp,ae];constructor
 .ext⟨⟨a,b,c⟩,d,e⟩;simp!
 exact λd=>{_,d,ρ}
theorem Qt(T:Txt mg){q r:aS}(v:ba P w K mg base "corners_of" 1 (aF K q))(D:w8 q)(G:ba P w K mg base "corner_closes" 2 (aF K r))(I:Dg r){f:dn}{u:hO}(F:bb K "corners_close" "corners_close" zG f u):∃fn,aV P w K mg base bc 3 f u ["rings"] (aF K fn)/\FD fn:=by
 $$$(bX F F7 ρ ?J ?B)
 case J=>let nd:=F7.nd;let tp:lT "corners":=⟨trivial⟩;$("h")
 ext web h hw;let L:=D web h hw;let hl:=Af λp M=>h.len M;let bI:=h.bI;$$$(cE ρ ?w);$$$(ah<|aN (aC (aa ρ ak) L) ρ<|aq ?_);$$$(ah<|bY (qq (xs:=cx web) (λk=>[.no,.D<|.U<|k.map .str,.D<|.bh true<|bw<|cx web]) (Z1:=[.D (bq web),.D<|.bh true<|bw<|cx web]) ?a ρ ?b ?c ?d ?e) ⟨_,ρ⟩)
 case a=>show al (kJ<|bw<|cx web,_)=_;dsimp[kJ,bw];rw[eX];rfl
 case b=>$$(c6);lia
 case c=>ext y l Z hd;let rfl||(z,rfl):=hd<;>rfl
 case e=>ext y l;rfl
 ext y l;let t:=l;rw[rO h.nd]at t;let((x,n,m),_,rfl):=ae.1 t;let(g,i):=(uA h).1 l;let tx:∀z∈dX web x,bj z:=λz hz=>h.txt<|hw.C.mem x g z hz
 let:=I (cx web) x n m (h.txt<|ι g) (tx n i.mem.1) (tx m i.mem.2) (λk N O hm=>by
  let(j,Q,rfl):=BP hm;rw[hw.ww x g k j N Q (by rw[<-O];$i)]) (λo=>by
  let o:=(hw.C.mem x g n i.mem.1).resolve_right o;$((uA h).2 {o,hw.C.lA x g n m i o})) (λhm=>by
  let hm:=(hw.C.mem x g m i.mem.2).resolve_right hm;$((uA h).2 {hm,hw.C.lZ x g n m i hm}))
 $(ag (aC (aa ρ<|aa ρ ak) this) ρ)
def Vv (nd:ns.Nodup)(s:bS ns p wl):∃j,ns.findIdx? (λx=>bd<|x=wl)=al j/\cT (.L<|ns.map .str) (.int<|(j:Int)-1)=al (.str p):=by
 let(i,a,b):=s;let hi:=(cn.1 a).1;let(c,d):=cn.1 b;$({(i+1)%ns.length,aba.2 {c,by$$$$d,λk hk=>?_},?_})
 .ext z;let:=rP nd (i:=k) (cn.2 {by lia,by$$$$z}) b;lia
 simp?[oP];delta gb;let:iC (ns.map Dat.str).length (((i+1)%ns.length:Nat)-1:Int)=al i:=by
  rw[a8];delta iC;ext(hl:i+1<ns.length);simp![aaf];let:i+1=ns.length:=by lia
  rw[this,acH,if_neg ∅,if_pos ∅]
  congr 1;$_
 simp?[this,mv,dk,a];rfl
def G8 (h:c Z=al (false,Z1))(q:Q (.next Z1)):WS (iD c fb<|n+1) Z Q:=by$({_,?_,q});show(c Z).bind _=_;rw[h];rfl
def IU (h:c Z=al (true,Z1))(hb:fb Z1=al (.next Z2))(q:WS (iD c fb n) Z2 Q):WS (iD c fb<|n+1) Z Q:=by let(o,e,q):=q;$({o,?_,q});show(c Z).bind _=_;simp!
theorem OE (D:List eS->eS->Slot->DS)(stop:∀d a t,a∉rooms->c (D d a t)=al (false,D d a t))(go:∀d a p t,Fr t->a∈rooms->bS (ring a) p wl->d.length<500->c (D d a t)=al (true,D d a t)/\∃t',Fr t'/\fb (D d a t)=al (.next<|D (d++[a]) p t'))(r:Row rooms ring wl a l) :
  ∀(d:List eS) (t:Slot) (n:Nat),Fr t->l.length<n->d.length+l.length<500->(∀e t',Q<|.next<|D (d++l) e t')->WS (iD c fb n) (D d a t) Q:=by
 induction r with
 | @stop b h=>ext d t n g f _ q;obtain⟨n,rfl⟩:∃m,n=m+1:={n-1,by simp at f;$_};$(G8 (stop d _ t h) ?_);let:=q b t;rw[nS]at this;$this
 | @go a p l h s _ j=>ext d t n g f hl q;simp at f hl;obtain⟨n,rfl⟩:∃m,n=m+1:={n-1,∅};let(k,t',o,u):=go d a p t g h s ∅;$(IU k u (j _ _ _ o (by lia) (by simp?[eR,abn];$_) λe i=>?_));rw[pw];$(q e i)
def Gh(fn:aS):Prop:=∀(web:bp) (wl a:eS) (l:List eS),cK web->bj wl->Row (web.map (·.1)) (dX web) wl a l->l.length<100->fn [bq web,.str wl,.str a]=al (.O<|.L<|l.map .str)
def O5(T:Txt mg)(F:bb K "row_along" "row_along" BN f i):∃fn,aV P w K mg base bc 1 f i ["rings","wall","first"] (aF K fn)/\Gh fn:=by
 $$$(bX F J0 ρ ?B ?C)
 case B=>let fz:jF "rings":=⟨trivial⟩;$("h")
 ext web wl a l h k r hl;$$$(cE ρ ?w);$$$(ah<|aN (ck ak<|nT _) ρ<|aq<|ah<|aN ρ ρ<|aq ?_);$$$(ah<|OE (λc b t=>[.D (bq web),.D<|.str wl,.D<|.str a,.O<|.L<|c.map .str,.D<|.str b,t]) ?stop ?go r [] .no rW (ι ρ) ?n ?m ?q)
 case n=>$$(rW);$_
 case m=>simp?[aaw];$_
 case q=>$(λa' t'=>aq<|ah<|bY ρ ⟨_,ρ⟩)
 case stop=>ext c b t B;let e:=vi web b false;rw[decide_eq_false B]at e;$(bL<|ay ρ ρ e)
 ext c b p t u B o ha;let e:=vi web b false;rw[decide_eq_true B]at e;let(x,g,rfl):=ae.1 B;rw[fE h.nd g]at o;let tr:∀z∈x.2,bj z:=λz hz=>h.txt ((h.rg x g).2.2 z hz).1;let(j,v,y):=Vv (h.rg x g).2.1 o;$({bL<|ay ρ ρ e,.D<|.L<|x.2.map .str,τ ⟨_,ρ⟩,?_});$(u9 (xM<|gZ ρ ρ (by$$(c6);rw[a8];$_))<|vB<|u9 (sh (Z2:=[.D (bq web),.D<|.str wl,.D<|.str a,.O<|.L<|(c++[x.1]).map .str,.D<|.str x.1,.D<|.L<|x.2.map .str]) (v_res<|kX ρ ρ<|mI h.nd g) ?_)<|vB<|u9 (sh (v_res<|aY ρ (ag (ay (Vr ρ (aa ρ ak) (pL tr) (mz k.ok)<|(Mq tr k).trans v) ρ<|ke ρ) ρ) ρ y) ρ)<|vB ρ);rw[fv];let rfl||(d,rfl):=u<;>rfl
def EA{web:bp}(nd:(web.map (·.1)).Nodup)(keep:eS×List eS->Bool):((web.filter keep).map (·.1)).Nodup:=md (List.Sublist.map _ qh) nd
def yK (p:l.Perm a):aD l=aD a:=ui ((gk _ _).trans p)<|HD l
theorem uu (h:l.length<64):kP [.L (l.map .str)]=al (.O<|.L<|(aD l).map .str):=by
 show(match dS (l.map .str)with
  |some a=>if a.length<64 then al (Res.O<|.L<|(aD a).map .str)else am
  |none=>j6 [.L (l.map .str)])=_
 let:=oh (λx:eS=>x) l;rw[abT]at this;rw[this];$(if_pos h)
theorem IV:∀l:List eS,gG (l.map Dat.str) (l.map Dat.str)=bi
 |[]=>rfl
 |x::l=>by show(dm (.str x) (.str x)&&gG (l.map Dat.str) (l.map Dat.str))=bi;rw[IV l,my];simp
def II(fn:aS):Prop:=∀(web:bp) (k:Nat),k<4->cK web->fX web->fn [bq web,.str<|az k]=al (.D<|.bl true)
def MT(T:Txt mg)(G:ba P w K mg base "corners_of" 1 (aF K d))(I:w8 d)(J:ba P w K mg base "follower" 1 (aF K e))(L:Bb e)(M:ba P w K mg base "row_along" 1 (aF K g))(N:Gh g)(F:bb K "wall_has_row" "wall_has_row" BR f q):∃fn,aV P w K mg base bc 2 f q ["rings","wall"] (aF K fn)/\II fn:=by
 $$$(bX F F4 ρ ?B ?C)
 case B=>let nd:=F4.nd;let fz:jF "rings":=⟨trivial⟩;$("h")
 ext web k i h hw;let(x,j,r,l,O,t,m):=hw.row k i;let bI:=h.bI;let sz:web.length<=sizeLine:=by$$(c6);lia
 let u:=o8 _<|oK i;let Q:=L k i;let hll:l.length<=8:=n5 (xU t λy o=>((m y).1 o).1) (by rw[a8];lia);let v:(dg web).map (λk=>Dat.str k.1)=web.map λp=>Dat.str p.1:=by$$(dg);rw[eX];rfl
 let R:(web.filter λp=>bd<|[p.1,az k,az<|(k+1)%4]∈cx web).map (·.1)=[x]:=by
  $(List.perm_singleton.1 ((iR (EA h.nd _) ⋯).2 λa=>?_));rw[ae,kn];constructor
  .ext⟨p,b,rfl⟩;rw[hG,decide_eq_true_eq,uA h]at b;$((r p.1 b.2.1).1 b.2.2)
  ext rfl;let(p,b,rfl):=ae.1 j;$({p,hG.2 {b,decide_eq_true<|(uA h).2 ⟨j,(r _ j).2 ρ⟩},ρ})
 let c:l.Perm ((web.filter λp=>bd<|az k∈p.2).map (·.1)):=by
  $((iR t<|EA h.nd _).2 λa=>?_);rw[m];constructor
  .ext⟨S,B⟩;rw[ae];let(p,b,rfl):=ae.1 S;rw[fE h.nd b]at B;$({p,hG.2 {b,decide_eq_true B},ρ})
  ext B;let(p,b,rfl):=ae.1 B;rw[hG,decide_eq_true_eq]at b;$({ae.2 ⟨p,b.1,ρ⟩,by rw[fE h.nd b.1];$(b.2)})
 $$$(cE ρ ?w);show WS _ [.D (bq web),.D<|.str<|az k,.no,.no,.no] _;$$$(ah<|aN (aC (aa ρ ak)<|I web h hw) ρ<|aq ?_);show WS _ [.D (bq web),.D<|.str<|az k,.O<|.bh false<|bw<|cx web,.no,.no] _;$$$(ah<|aN (Z2:=[.D (bq web),.D<|.str<|az k,.D<|.bh false<|bw<|cx web,.O<|.L<|[x].map .str,.no]) (uB (enc:=λp:eS×List eS=>.str p.1) (xs:=web) (λp=>[.no,.D<|.str p.1,.D<|.bh false<|bw<|cx web,.D<|.str<|az k]) (λp=>bd<|[p.1,az k,az<|(k+1)%4]∈cx web) (λp=>.str p.1) ?U ρ sz ?V ?W ?X ?Y) ?a6<|aq ?a7)
 case U=>show al ((dg web).map λk=>Dat.str k.1,_)=_;rw[v]
 case V=>ext y o Z hd;let rfl||(z,rfl):=hd<;>rfl
 case W=>ext p b;$(bL<|yf (k:=[p.1,az k,az<|(k+1)%4]) ?_ ρ);$$(AY);rw[aa ρ (aa ρ<|aa (ag (aC (aa ρ ak) Q) ρ) ak)];rfl
 case X=>ext p b _;rfl
 case Y=>ext p b;rfl
 case a6=>rw[<-R,eX];rfl
 $$$(dY (bL<|ay (iX ρ ρ) ρ<|ne_int _ _) ρ ?zz);let tr:∀p∈web,∀z∈p.2,bj z:=λp b z hz=>h.txt ((h.rg p b).2.2 z hz).1;generalize hT:(web.filter λp=>bd<|az k∈p.2).map (·.1)=td at c;let htl:=c.length_eq;$$$(ah<|aN (Z2:=[.D (bq web),.D<|.str<|az k,.D<|.bh false<|bw<|cx web,.O<|.L<|[x].map .str,.O<|.L<|td.map .str]) (uB (enc:=λp:eS×List eS=>.str p.1) (xs:=web) (λp=>[.no,.D<|.str p.1,.D<|bq web,.D<|.str<|az k]) (λp=>bd<|az k∈p.2) (λp=>.str p.1) ?b1 ρ sz ?b2 ?b3 ?b4 ?b5) ?b6<|aq ?b7)
 case b1=>show al ((dg web).map λk=>Dat.str k.1,_)=_;rw[v]
 case b2=>ext y o Z hd;let rfl||(z,rfl):=hd<;>rfl
 case b3=>ext p b;$(bL<|ay ρ (kX ρ ρ<|mI h.nd b)<|qK (tr p b) u false)
 case b4=>ext p b _;rfl
 case b5=>ext p b;rfl
 case b6=>rw[<-hT,eX];rfl
 let tl:∀z∈aD l,bj z:=λz hz=>h.txt<|ι ((m z).1 ((gk _ _).mem_iff.1 hz)).1;let D:=pL tl;$(ah<|bY (ay (ag (aC (aa (ag (aC (aa ρ<|aa ρ<|aa (aY ρ ρ ρ ρ) ak)<|N web (az k) x l h u O ∅) ρ) ak)<|uu ∅) ρ) (ag (aC (aa ρ ak)<|uu ∅) ρ)<|v_eq D (by rw[<-yK c];$D))<|gK ?_);rw[<-yK c];show dm (.L _) (.L _)=bi;rw[mM,IV]
def Kl(fn:aS):Prop:=∀ring names:List eS,(∀n∈ring,bj n)->(∀n∈names,bj n)->ring.length<=100->fn [.L (ring.map .str),.L<|names.map .str]=al (.D<|.bl (ring.any λy=>bd<|y∈names))
def XQ(T:Txt mg)(h:mg "any"=am)(F:bb K "has_one_of" "has_one_of" zl f e):∃fn,aV P w K mg base bc 1 f e ["ring","names"] (aF K fn)/\Kl fn:=by
 $$$(bX F FZ ρ ?C ?B)
 case C=>let nd:=FZ.nd;$("h")
 ext ring names i j hl;$$$(cE ρ ?w);$$$(ah<|bY (aC (aa (ag (cX (λn=>[.no,.D<|.str n,.D<|.L<|names.map .str]) (λn=>.bl<|bd<|n∈names) (bP ρ) ρ ?a ?b ?c ?d) ρ) ak)<|Ja (λn=>bd<|n∈names) ring) ⟨_,ρ⟩)
 case a=>$$(c6);lia
 case b=>ext y hy Z hd;let rfl||(z,rfl):=hd<;>rfl
 case c=>ext n g;$(ag (ay ρ ρ<|qK j (i n g) false) ρ)
 ext n g;rfl
def WI(n:Nat):(eM 0 (n:Int)).length=n:=by simp[eM]
abbrev mh(web:bp):Nat->List Str:=reach (web.map (·.1)) cJ<|dX web
def KJ (nd:(web.map (·.1)).Nodup)(k:Nat):mh web (k+1)=cJ++(web.filter λp=>p.2.any λy=>bd<|y∈mh web k).map (·.1):=by
 show cJ++(web.map (·.1)).filter _=_;rw[agc];congr 2;$(aca λp a=>?_)
 show(dX web p.1).any _=_;rw[fE nd a]
def Ij(fn:aS):Prop:=∀web:bp,cK web->fX web->fn [bq web]=al (.D<|.bl true)
theorem Vp(T:Txt mg)(w1:fJ K mg "WALLS" qP){g:aS}(m:ba P w K mg base "has_one_of" 1 (aF K g))(o:Kl g){f:dn}{i:hO}(F:bb K "all_reached" "all_reached" AX f i):∃fn,aV P w K mg base bc 2 f i ["rings"] (aF K fn)/\Ij fn:=by
 $$$(bX F JG ρ ?D ?B)
 case D=>let nd:=JG.nd;let fz:jF "rings":=⟨trivial⟩;$("h")
 ext web h hw;let bI:=h.bI;let sz:web.length<=sizeLine:=by$$(c6);lia
 let j:(dg web).map (λk=>Dat.str k.1)=web.map λp=>Dat.str p.1:=by$$(dg);rw[eX];rfl
 let q:(dg web).length=web.length:=a8 ..;let tr:∀p∈web,∀z∈p.2,bj z:=λp a z hz=>h.txt ((h.rg p a).2.2 z hz).1
 let b:∀k,∀z∈mh web k,bj z:=λk z hz=>h.txt ((λh=>by
   cases k with
   |zero=>$(τ h)
   |succ k =>
    let h||h:=eK.1 h
    .$(τ h)
    $(ι (hG.1 h).1)) hz)
 $$$(cE ρ ?w);$$$(ah<|aN ρ ρ<|aq ?_);$$$(ah<|dD (λk Z=>∃c,Fr c/\Z=[.D (bq web),.O<|.L<|(mh web k).map .str,c]) (wc (aa (iX ρ<|congrArg al q) ak) ?r) ⟨_,ι ρ,ρ⟩ ?st ?C)
 case r=>lia
 case st =>
  ext k x t _ ⟨c,l,rfl⟩;let b:=b k;rw[KJ h.nd];generalize mh web k=R at *;let(_,rfl):=zV t;$({[.D (bq web),.O<|.L<|R.map .str,.D<|.int k],by let rfl||(d,rfl):=l<;>rfl,?_});$$$(ah<|aN (ay (ag (aC (aa ρ ak) ρ) ρ) (ag (uB (λp=>[.no,.D<|.str p.1,.D<|.L<|R.map .str,.D<|bq web]) (λp=>p.2.any λy=>bd<|y∈R) (λp=>.str p.1) ?G ρ sz ?I ?J ?L ?M) ρ)<|pU ?N) ?O<|aq<|aP ⟨_,τ ⟨_,ρ⟩,ρ⟩)
  case G=>show al ((dg web).map λk=>Dat.str k.1,_)=_;rw[j]
  case I=>ext y u Z hd;let rfl||(z,rfl):=hd<;>rfl
  case J=>ext p a;let:=h.len a;$(fw (ag (aC (aa (kX ρ ρ<|mI h.nd a)<|aa ρ ak)<|o p.2 R (tr p a) b (by lia)) ρ) ρ)
  case L=>ext p a _;rfl
  case M=>ext p a;rfl
  case N=>let:=px (λp:eS×List eS=>p.2.any λy=>bd<|y∈R) web;rw[a8];show 4+_<=c6;delta c6;lia
  rw[fv,eX];rfl
 ext _ ⟨c,l,rfl⟩;rw[WI];$$$(aq<|ah<|bY (qq (λp=>[.no,.D<|.str p.1,.D<|.L<|(mh web web.length).map .str]) ?Q ρ sz ?S ?U ?V) ⟨_,ρ⟩)
 case Q=>show al ((dg web).map λk=>Dat.str k.1,_)=_;rw[j]
 case S=>ext y u Z hd;let rfl||(z,rfl):=hd<;>rfl
 case V=>ext p a;rfl
 ext p a;let:p.1∈mh web web.length:=by let:=hw.all p.1<|ae.2 ⟨p,a,ρ⟩;rw[a8]at this;$this
 let e:=qK (b web.length) (h.txt<|ι<|ae.2 ⟨p,a,ρ⟩) false;rw[decide_eq_true this]at e;$(ag (ay ρ ρ e) ρ)
def jD(x n:eS):Bool:=fu n||jV x n
def lE(web:bp):Nat:=aK (λp=>p.2.countP<|jD p.1) web
def Ll(a b):sR (.str a) (.str b)=al (.D<|.bl<|jV a b):=by show al (Res.D<|.bl<|bd<|a.cps.toList<b.cps.toList)=_;simp[jV,dh]
def D1(fn:aS):Prop:=∀web:bp,cK web->∃r,fn [bq web]=al r/\∃ds,r=.O (.L ds)/\ds.length=lE web
theorem TZ(T:Txt mg)(w1:fJ K mg "WALLS" qP)(F:bb K "ties_of" "ties_of" zD f q):∃fn,aV P w K mg base bc 1 f q ["rings"] (aF K fn)/\D1 fn:=by
 $$$(bX F EV ρ ?C ?B)
 case C=>let fz:jF "rings":=⟨trivial⟩;$("h")
 ext web h;let bI:=h.bI;let tr:∀p∈web,∀z∈p.2,bj z:=λp e z hz=>h.txt ((h.rg p e).2.2 z hz).1;let u:∀k,k<=web.length->lE (web.take k)<=12*k:=by
  ext k;induction k with
  |zero=>ext _;$(eT _)
  |succ k v=>ext G;obtain⟨p,ep⟩:∃p,web[k]?=al p:={web[k],bt (by lia)};let h2:=h.len<|eH ep;let h3:=acO (p:=jD p.1) (l:=p.2);unfold lE at *;simp?[eC ep,vf];show _+(p.2.countP (jD p.1)+0)<=_;lia
 $$$(AR ρ ?w);$$$(ah<|aN (ck ak<|nT _) ρ<|aq ?_);$$$(ah<|dD (λk Z=>∃ds i a,Fr i/\Fr a/\ds.length=lE (web.take k)/\Z=[.D (bq web),.O<|.L ds,i,a]) ρ ⟨[],_,_,ι ρ,ι ρ,ρ,ρ⟩ ?st ?D)
 case D=>ext _ ⟨ds,i,a,r,c,hd,rfl⟩;rw[a8,show(dg web).length=web.length from a8 ..,lq]at hd;$(aq<|ah<|bY ρ ⟨_,_,ρ,ds,ρ,hd⟩)
 ext k x m _ ⟨ds,i,a,r,c,hd,rfl⟩;unfold dg at m;rw[eX,dk]at m;let(p,ep,rfl):=ft.1 m;let e:=eH ep;let G:=(cn.1 ep).1;let hlp:=h.len e;let C:=u k (by lia);$({[.D (bq web),.O<|.L ds,.D<|.str p.1,a],by let rfl||(d,rfl):=r<;>rfl,?_});$(ah<|dD (λj Z=>∃b a,Fr a/\b.length=lE (web.take k)+(p.2.take j).countP (jD p.1)/\Z=[.D (bq web),.O<|.L b,.D<|.str p.1,a]) (bP<|kX ρ ρ<|mI h.nd e) ⟨ds,a,c,by rw[hd];simp,rfl⟩ ?_ ?_)
 .ext j y t _ ⟨b,a,c,g,rfl⟩;rw[dk]at t;let(n,o,rfl):=ft.1 t;let I:=eH o;let J:=acO (p:=jD p.1) (l:=p.2.take j);simp at J;$({[.D (bq web),.O<|.L b,.D<|.str p.1,.D<|.str n],by let rfl||(d,rfl):=c<;>rfl,?_});$(ah (eI (tT (bL<|ay ρ ρ<|qE (tr p e n I).ok false)<|bL<|ay ρ ρ<|Ll _ _) (λz=>?_) λz=>aP<|aq<|aP ⟨b,_,τ ⟨_,ρ⟩,?_,ρ⟩))
  .$(ah {_,xM<|gZ ρ (aa (dW (aa ρ<|aa ρ ak) (by simp[c6])) ak) (by$$(c6);lia),aq<|aP<|aq<|aP ⟨b++[.U [.str p.1,.str n]],.D<|.str n,τ ⟨_,ρ⟩,?_,ρ⟩});rw[eC o,qe,eR,g,aeR,if_pos (show jD p.1 n=bi from z)];simp;lia
  rw[eC o,qe,aeR,if_neg (by rw[show jD p.1 n=bn from z];simp)];$g
 ext _ ⟨b,a,c,g,rfl⟩;rw[a8,lq]at g;$(aq<|aP ⟨b,.D<|.str p.1,a,τ ⟨_,ρ⟩,c,?_,ρ⟩);simp?[g,eC ep];delta lE;simp[vf];rfl
def Dl(fn:aS):Prop:=∀web:bp,cK web->fX web->fn [bq web]=al (.O<|.bh false<|bw<|cG<|(cx web).map aD)
def T1(T:Txt mg)(o:ba P w K mg base "corners_of" 1 (aF K e))(q:w8 e)(F:bb K "threes_of" "threes_of" B' f g):∃fn,aV P w K mg base bc 2 f g ["rings"] (aF K fn)/\Dl fn:=by
 refine' bX F Hv ρ ?D ?B
 case D=>let tp:lT "threes":=⟨trivial⟩;let tp2:lT "corners_of":=⟨trivial⟩;$("h")
 ext web h hw;let bI:=h.bI;let hl:=Af λp r=>h.len r;$$$(cE ρ ?w);$$$(ah<|aN ρ ρ<|aq ?_);$$$(ah<|dD (λk Z=>∃b,Fr b/\Z=[.D (bq web),.O<|.bh false<|bw<|cG<|((cx web).take k).map aD,b]) ?a ⟨_,ι ρ,ρ⟩ ?st ?C)
 case a=>$$(vV);rw[aC (aa ρ ak) (q web h hw)];show al (kJ<|bw<|cx web,_)=_;dsimp[kJ,bw];rw[eX];rfl
 case C=>ext _ ⟨b,i,rfl⟩;rw[a8,lq];$(aq<|ah<|bY ρ ⟨_,ρ⟩)
 ext k x j _ ⟨b,i,rfl⟩;rw[dk]at j;let(c,l,rfl):=ft.1 j;rw[eC l,fv];show∃Z1,_/\WS _ Z1 (zA (λZ=>∃b,Fr b/\Z=[.D (bq web),.O<|.bh false<|bw<|cG<|((cx web).take k).map aD++[aD c],b]) _);rw[AD];let hc3:c.length=3:=by let:=eH l;rw[rO h.nd]at this;let(z,_,rfl):=ae.1 this;rfl
 generalize t:cG (((cx web).take k).map aD)=L;let m:L.length<1000:=by rw[<-t];apply xr<|yu _;rw[a8,iW];lia
 refine{[.D (bq web),.O<|.bh false<|bw L,.D<|.U<|c.map .str],by let rfl||(d,rfl):=i<;>rfl,?_};$(ah {_,yR ρ ?_ ρ m,aq<|aP ⟨.D<|.U<|c.map .str,τ ⟨_,ρ⟩,ρ⟩});let u:kP [.U (c.map .str)]=al (.O<|.L<|(aD c).map .str):=by show(dS<|c.map .str).bind _=_;let:=oh (λx:eS=>x) c;simp!
 unfold A1;rw[aa (ag (aC (aa ρ ak) u) ρ) ak];show(dS<|(aD c).map .str).map _=_;let:=oh (λx:eS=>x)<|aD c;simp!
def QU (a:ds.length=m)(h:WS s (eJ n ds) λo=>∃Z,o=.next Z):gy m (jg n s) ds=al (.D .aG):=by let(o,e,Z,rfl):=h;delta gy;rw[if_pos a];$((λh=>by$$(jg);rw[h];rfl) e)
theorem Ah (g:b->c)(f:c->Nat):∀l:List b,aK f (l.map g)=aK (λa=>f<|g a) l
 |[]=>rfl
 |a::l=>by show f (g a)+aK f (l.map g)=f (g a)+_;rw[Ah g f l]
def kh:aD l=aD a↔l.Perm a:=by
 constructor
 .ext e;let b:=gk l dh;let c:=gk a dh;rw[show l.mergeSort dh=a.mergeSort dh from e]at b;$(b.symm.trans c)
 $yK
theorem RK (h:cK web)(hw:fX web):(cG<|(cx web).map aD).length+web.length=lE web+1:=by
 let(k1,k2):=vX<|(cx web).map aD;let f:=hw.C.threes C7 (λc _ c' _=>kh) k2 (λk=>by rw[k1,rO h.nd,eX,ae];rfl)
 let g:=hw.Jc;rw[<-f,a8,Ah,Ah]at g;let e3:aK (λp:eS×List eS=>(dX web p.1).countP λy=>!ax (web.map (·.1)) y) web+aK (λp:eS×List eS=>(dX web p.1).countP λy=>ax (web.map (·.1)) y&&jV p.1 y) web=lE web:=by
  $$(lE);rw[<-kS];$(dQ λp j=>?_);rw[fE h.nd j];let hm:∀y∈p.2,(y∈web.map (·.1)\/y∈cJ):=λy a=>((h.rg p j).2.2 y a).1;let hd:=λy a=>hw.C.gY y a;generalize p.2=l at *;induction l with
  |nil=>rfl
  |cons y l m =>
   let i:=m<|λz hz=>hm z<|fk _ hz;simp?[ma,ma];let a:=hm y fm;ext(b:y∈web.map (·.1))
   .let d:ax (web.map (·.1)) y=bi:=decide_eq_true b;let e:fu y=bn:=by rw[<-zd,uj];$(hd y b)
    rw[show jD p.1 y=jV p.1 y from by$$(jD);rw[e];rfl,d,<-i];lia
   let d:ax (web.map (·.1)) y=bn:=decide_eq_false b;let e:=(uj y).2 (a.resolve_left b);rw[show jD p.1 y=bi from by$$(jD);rw[e];rfl,d,<-i];lia
 lia
theorem Ir{web:bp}(nd:(web.map (·.1)).Nodup):tq [.L (web.map pairD)]=al (.O<|.bK<|dg web):=by
 let:∀l:bp,k9 (l.map pairD)=al (dg l):=by
  ext l;induction l with
  |nil=>rfl
  |cons p l a=>show(k9<|l.map pairD).map _=_;rw[a];rfl
 show(k9<|web.map pairD).bind _=_;rw[this];apply if_pos;delta dg;rw[eX];$nd
def Gk(fn:aS):Prop:=∀web:bp,cK web->fX web->fn [.L (web.map pairD)]=al (.D .aG)
def xV (h:a Z=al (ds,Z1))(e:fn ds=al (.D<|.bl true)):pV (n9<|ic<|bT fn a) Z=al (false,Z1):=i9<|fw (ag (aC h e) ρ) ρ
theorem XX(T:Txt mg)(w1:fJ K mg "WALLS" qP){c d e g i j l:aS}(x:ba P w K mg base "has_form" 3 (aF K c))(D:JY c)(G:ba P w K mg base "ties_are_shared" 1 (aF K d))(I:HI d)(J:ba P w K mg base "corners_close" 3 (aF K e))(L:FD e)
 (M:ba P w K mg base "wall_has_row" 2 (aF K g))(N:II g)(O:ba P w K mg base "all_reached" 2 (aF K i))(Q:Ij i)(R:ba P w K mg base "threes_of" 2 (aF K j))(S:Dl j)(U:ba P w K mg base "ties_of" 1 (aF K l))(V:D1 l){f:dn}{m:hO}(F:bb K "must_web" "must_web" Bx f m):∃fn,aV P w K mg base bc 4 f m ["web"] (aF K fn)/\Gk fn:=by
 $$$(bX F GJ ρ ?W ?B)
 case W=>let nd:=GJ.nd;let hl:sv "rings":=⟨trivial⟩;$("h")
 ext web h hw;let X:(dg web).length=web.length:=a8 ..;let(_,Y,ds,rfl,hd):=V web h;$$$(QU ρ ?w);apply dY (xV (aa ρ ak)<|D web h) ρ;$$$(ah<|aN (r:=.D<|bq web) (Z1:=[.D (.L<|web.map pairD),.no]) ?a ρ<|aq ?b)
 case a=>$$(nF);rw[aC (aa ρ ak) (Ir h.nd)];rfl
 $(dY (xV (aa ρ ak) (I web h λp o q t z=>?_)) ρ ?_)
 .let u:=hw.C.sym p.1 (ae.2 ⟨p,o,ρ⟩) q.1<|ae.2 ⟨q,t,ρ⟩;rw[fE h.nd o,fE h.nd t]at u;$(u z)
 $(dY (xV (aa ρ ak)<|L web h hw) ρ ?_);$$$(dY (i9<|fw (ag (qq (enc:=Dat.str) (xs:=cJ) (λn=>[.no,.D<|.str n,.D<|bq web]) (xI ρ) ρ ?c1 ?c2 ?c3 ?c4) ρ) ρ) ρ ?c5)
 case c1=>show 4<=c6;$$(c6);lia
 case c2=>ext y hy Z hd;let rfl||(z,rfl):=hd<;>rfl
 case c3=>ext n v;let(k,hk,rfl):=BP v;$(ag (aC (aa ρ<|aa ρ ak)<|N web k hk h hw) ρ)
 case c4=>ext n v;rfl
 show WS _ [.D (.L<|web.map pairD),.D<|bq web] _;$(dY (xV (aa ρ ak)<|Q web h hw) ρ ?_);$$$(dY (bL<|ay (ag (aC (aa (ag (aC (aa ρ ak)<|S web h hw) ρ) ak) ρ) ρ) (ag (ay (r:=.D<|.int<|(ds.length:Int)-web.length+1) (ag (ay (ag (aC (aa (ag (aC (aa ρ ak) Y) ρ) ak) ρ) ρ) (iX ρ<|congrArg al X)<|ke ρ) ρ) ρ ρ) ρ)<|ne_int _ _) ?d2<|aP ⟨_,ρ⟩);grind [bw,RK]
end
local macro_rules | `(tactic| walk_at "r15")=>`(tactic| (refine' Ej ?n ?x ?a ?b ?c ?d ?e ?f ?g ?h;(case x=>rfl);(case n=>exact zU (by rfl));(case a=>rfl);(case b=>exact rX (by rfl));(case c=>rfl);(case d=>exact fun _=>rfl);(case e=>walk_at "I");(case f=>(intro _ _ _ _ _;walk_at "G"));(case g=>(intro _ _ _ _ _;walk_at "J"));(case h=>(intro _ _ _ _ _;walk_at "D"))))
local macro_rules | `(tactic| walk_at $s:str)=>Mq.go s "1@Yt C~0@Im aarrrrnrfIptu|DE.alt&AL rrrarA&Bj rrarA&xK rrarA|Yr DD|Sm rarA|Xm rarA|>r15~Z@xY Dr~I@Wc rarrA"
section
variable{P:hZ}{w:nL}{K:f'}{mg:eS->Option cm}{base:nk}
def qR(fn:fq):Prop:=∀(p:Int×Int) {m:Int},0<m->m<=100000000000000000000->∃v q,fn (pD p) [.int m]=al (.D<|.int v,pD q)/\0<=v/\v<m
def Ux(T:Txt mg)(F:bb K "_law_draw" "_law_draw" ye f c):∃fn,aV P w K mg base bc 1 f c ["_law_purse_here","_law_out_of"] (fR K 0 fn)/\qR fn:=by
 $$$(r8 (j:=0) F CI (n:=1) ρ ?C ?B)
 case C=>let nd:=CI.nd;let lk:oU "_law_purse_here":=⟨trivial⟩;$("h")
 clear T F;ext⟨a,b⟩ m h h';let hm:0<m/\m.natAbs.log2<9000:={h,Pu ∅};let hd:mH a m=bi:=by$$(mH);$$$$hm
 let hd':mH b m=bi:=by$$(mH);$$$$hm
 let hm':=hm.1;ext(d:a=0)
 .$$d;$$$({b%m,(b/m,b),Bi ?e ?k,abP _ ∅,aau _ h})
  case e=>$("v")
  rfl
 $$$({a%m,(a/m,b),Bi ?D ?k2,abP _ ∅,aau _ h})
 case D=>$("v")
 rfl
def kY(c:Int):Prop:=ro c<=1048576
def NA (a:kY i)(b:kY j):eA i j=bi:=by unfold kY at a b;dsimp[eA,ab9];rw[show bd ((ro i:Int)+(ro j:Int)>ah1)=bn from decide_eq_false (by$$(ah1);lia)];simp
def Gz(fn:aS):Prop:=∀(c:Int) (k:Nat),kY c->k<64->∃v:Int,fn [.int c,.int k]=al (.D<|.int v)
theorem SI(T:Txt mg){f:dn}{a:hO}(F:bb K "_law_mixed" "_law_mixed" A2 f a):∃fn,aV P w K mg base bc 1 f a ["_law_cell","_law_k"] (aF K fn)/\Gz fn:=by
 $$$(bX F Iz ρ ?C ?B)
 case C=>$("h")
 ext c k b hk;let d1:∀i,mH i 2147483629=bi:=λi=>by rfl
 let m1:=NA b b;let m2:∀i,eA 3 i=bi:=λi=>yM ⋯;let m4:∀i,eA i 48271=bi:=λi=>uH ⋯;let m5:eA ((c*c+3*c+7919*k+1)*48271%2147483629) ((c*c+3*c+7919*k+1)*48271%2147483629)=bi:=uH (by lia);$$$({_,Aw ?e})
 case e=>$("v")
def DK(fn:aS):Prop:=∀ns:List Int,ns.length<=63->(∀n∈ns,kY n)->∃p,fn [.bQ ns]=al (.O<|pD p)
theorem PK(T:Txt mg)(B:mg "abs"=am){g:aS}(q:ba P w K mg base "_law_mixed" 1 (aF K g))(t:Gz g){f:dn}{i:hO}(F:bb K "_law_purse" "_law_purse" BM f i):∃fn,aV P w K mg base bc 2 f i ["_law_script"] (aF K fn)/\DK fn:=by
 $$$(bX F G4 (n:=1) ρ ?B ?C)
 case B=>let nd:=G4.nd;$("h")
 clear T F q;ext ns u B;$$$((AR (P:=λr=>∃p,r=.O (pD p)) ρ ?w).elim λr ⟨e,p,z⟩=>{p,z ▸ e});show WS _ [.D (.bQ ns),.no,.no,.no] _;let y:fQ (.bQ ns) am (al 63)=al (.O<|.L<|ns.map .int):=by show al (Res.O<|.L<|(cutD ns am<|al ((63:Nat):Int)).map Dat.int)=_;rw[sX,acD u]
 let I:gN (.L<|ns.map .int) (.L [.int 0])=al (.O<|.L<|(ns++[0]).map .int):=by rw[fv];$(if_pos (by simp?[a8,abn];$$(c6);lia))
 let J:eQ (.L<|(ns++[0]).map .int)=al (ns.length+1):=by simp[eQ]
 $$$(ah<|aN (Z2:=[.D (.bQ ns),.O<|.L<|(ns++[0]).map .int,.no,.no]) (ay (ag (uX ρ ρ y) ρ) (by rfl) I) ρ<|aq ?_);$$$(ah<|aN (Z2:=[.D (.bQ ns),.O<|.L<|(ns++[0]).map .int,.D<|.int 1,.no]) (v_res ρ) ρ<|aq ?_);let L:∀c∈ns++[0],kY c:=λc M=>by
  let h||h:=eK.1 M
  .$(B c h)
  rw[kn.1 h];$$(kY);decide +kernel
 $$$(ah<|dD (λk Z=>∃(n:Int) (a:Slot),Fr a/\Z=[.D (.bQ ns),.O<|.L<|(ns++[0]).map .int,.D<|.int n,a]) (by rfl) ⟨1,.no,ι ρ,ρ⟩ ?st ?D)
 case st =>
  ext k x N _ ⟨n,a,l,rfl⟩;let(hk,rfl):=zV N;$({[.D (.bQ ns),.O<|.L<|(ns++[0]).map .int,.D<|.int n,.D<|.int k],by let rfl||(d,rfl):=l<;>rfl,?_});let hm:k%(ns.length+1)<(ns++[0]).length:=by rw[eR];$(aat _ ⋯)
  let(v,O):=t (ns++[0])[k%(ns.length+1)] k (L _<|GD hm) (by lia);let m:cT (.L<|(ns++[0]).map .int) (.int ((k%(ns.length+1):Nat):Int))=al (.int (ns++[0])[k%(ns.length+1)]):=by simp?[oP];$(nh (by rw[dk,bt hm];rfl))
  let em:(k:Int)%((ns.length+1:Nat):Int)=((k%(ns.length+1):Nat):Int):=(Int.natCast_emod ..).symm;rw[<-em]at m;let Q:bd (0<((ns.length+1:Nat):Int))=bi:=decide_eq_true (by lia);let mk:eA n 2147483587=bi:=uH ⋯;$$$(ah<|aN (Z2:=[.D (.bQ ns),.O<|.L<|(ns++[0]).map .int,.D<|.int<|n*2147483587+v,.D<|.int k]) (ay (ag (fh<|ay ρ ρ<|if_pos mk) ρ) (ag (aC (aa (aY ρ (ag (ay ρ (iX ρ J)<|if_pos Q) ρ) ρ m)<|aa ρ ak) O) ρ) ρ) ρ<|aq<|aP ⟨_,_,τ ⟨_,ρ⟩,ρ⟩)
 ext _ ⟨n,a,l,rfl⟩;let h0:0<(ns++[0]).length:=⋯
 let o:cT (.L<|(ns++[0]).map .int) (.int 0)=al (.int (ns++[0])[0]):=by simp?[oP];$(nh (j:=0) (by rw[dk,bt h0];rfl))
 generalize (ns++[0])[0]=b at o;let ab:bT vM (gz (nB 1<|λZ=>al (.int 0,Z)) js) [.D (.bQ ns),.O<|.L<|(ns++[0]).map .int,.D<|.int n,a]=al (.D<|.int (if b<0 then -b else b),[.D (.bQ ns),.O<|.L<|(ns++[0]).map .int,.D<|.int n,a]):=aC (aa (aY ρ ρ ρ o) ak) ρ;$$$(aq<|ah<|eI (bL<|ay (r:=.D<|.bl<|bd<|(10:Int) ^ (18:Int).toNat<=if b<0 then -b else b) (ag ab ρ) (ag (ay ρ ρ ρ) ρ) ρ) ?G ?no)
 case G=>ext _;$(ah<|bY (ck (aa (ag ab ρ)<|aa ρ ak) (show 2<=c6 by simp[c6]))<|eB ⟨_,_,ρ,(_,_),ρ⟩)
 ext _;$(aP<|aq<|ah<|bY (by rfl)<|eB ⟨_,_,ρ,(_,_),ρ⟩)
def jP(st:List Int)(a k j:Nat):Nat:=97+((st.getD j 0+5*(k:Int)*(if j=a then 1 else 0))%26).toNat
def cR(st:List Int)(a k:Nat):Str:=⟨((hE st.length).map (jP st a k)).toArray⟩
def kf(x:eS):Str:=if fu x then x++ia "x" else x
def i8(st:List Int)(a m:Nat):List Str:=(hE m).map λk=>kf<|cR st a k
theorem vY(st:List Int)(a k:Nat):(cR st a k).length=st.length:=by show((hE st.length).map (jP st a k)).toArray.size=_;rw[gs,a8,me]
theorem Jr(st:List Int)(a k:Nat):∀c∈(cR st a k).cps.toList,iK c=bi:=λc h=>by let(j,_,rfl):=ae.1 h;$(RF (abP _ ⋯)<|aau _ ⋯)
theorem K7{st:List Int}(h0:0<st.length)(h7:st.length<=7)(a k:Nat):eF (kf<|cR st a k)=bi:=by
 let hl:=vY st a k;let hw:=Jr st a k;let fst:∀x:eS,0<x.length->∃c,x.cps.toList[0]?=al c:=λx g=>{_,bt (show 0<x.cps.toList.length by simp?[hS];$g)};delta kf;split
 .let ex:(ia "x").cps.toList=[120]:=by decide +kernel
  let e:(cR st a k++ia "x").cps.toList=(cR st a k).cps.toList++[120]:=by simp?[abf,aaY,ex]
  let el:(cR st a k++ia "x").length=st.length+1:=by rw[<-hl];show(cR st a k++ia "x").cps.size=(cR st a k).cps.size+1;rw[<-hS,e,eR,hS];rfl
  let(c,d):=fst (cR st a k++ia "x") ∅;$(vS.nm {d,λb f=>?_,?_}<|X6 _)
  .rw[e]at f;let z||z:=eK.1 f
   .$(hw b z)
   rw[kn.1 z];rfl
  show(cR st a k++ia "x").length<=8;$_
 ext1 h;let(c,d):=fst (cR st a k) ∅;$(vS.nm {d,hw,by rw[hS];show(cR st a k).length<=8;$_} (by$$$$h))
theorem Kc{st:List Int}{a i j:Nat}(b:a<st.length)(hi:i<8)(hj:j<8)(h:cR st a i=cR st a j):i=j:=by
 let h:=congrArg (λx:eS=>x.cps.toList[a]?) h;let e:∀k,(cR st a k).cps.toList[a]?=al (jP st a k a):=λk=>by show((hE st.length).map (jP st a k))[a]?=_;rw[dk,aaZ b];rfl
 simp?[e]at h;let h:=Option.some.inj h;unfold jP at h;rw[if_pos ρ]at h;$_
theorem iU{st:List Int}{a i j:Nat}(b:a<st.length)(c:i<8)(d:j<8)(h:kf (cR st a i)=kf (cR st a j)):i=j:=by
 let l1:=vY st a i;let l2:=vY st a j;let eq:∀x y:eS,(x++ia "x").cps.toList=y.cps.toList->y.length=x.length+1:=λx y h=>by let:=congrArg List.length h;simp[abf]at this;$this.symm
 unfold kf at h;$$$$$h<;>$$$$$h
 .let h:=congrArg (λx:eS=>x.cps.toList) h;simp?[abf,aaY]at h;$(Kc b c d<|l7<|List.append_cancel_right h)
 grind;grind;$(Kc b c d h)
theorem VF{st:List Int}{a m:Nat}(c:a<st.length)(d:st.length<=7)(hm:m<=8):(i8 st a m).length=m/\(∀x∈i8 st a m,eF x=bi)/\(i8 st a m).Nodup:=by
 $({by simp[i8],λx f=>?_,?_})
 .let(k,_,rfl):=ae.1 f;$(K7 (by lia) d a k)
 $(gd.2 (acs.imp_of_mem λ{i j} g h b e=>?_));let:=hI.1 g;let:=hI.1 h;$(b<|iU c ∅ ∅ e)
theorem zH{i j:Int}(h:eA i j=bi):fP eA (λi j=>.int<|i*j) (.int i) (.int j)=al (.D<|.int<|i*j):=if_pos h
theorem XO(n:Nat):eM 0 (n:Int)=(hE n).map λj:Nat=>.int (j:Int):=by simp[eM]
def qJ(st:List Int)(a k j:Nat):Int:=st.getD j 0+5*(k:Int)*(if j=a then 1 else 0)
theorem X'(st:List Int)(a k:Nat):acw (ia "") ((hE st.length).map λj=>(⟨#[jP st a k j]⟩:eS))=cR st a k:=by apply l7;let:=Xa<|(hE st.length).map (jP st a k);rwa[eX]at this
def Hd(t:Slot)(d:Dat):Prop:=t=.O d\/t=.D d
def Ef(fn:fq):Prop:=∀p (m:Nat),m<=8->∃r b,fn (pD p) [.int m]=al (r,b)/\∃(a:List eS) (c:Int×Int),r=.O (.L<|a.map .str)/\b=pD c/\a.length=m/\(∀x∈a,eF x=bi)/\a.Nodup
theorem Yh(T:Txt mg){G:fq}(p1:ba P w K mg base "_law_draw" 1 (fR K 0 G))(J:qR G){f:dn}{O:hO}(F:bb K "_law_names" "_law_names" x5 f O):∃fn,aV P w K mg base bc 2 f O ["_law_purse_here","_law_many"] (fR K 0 fn)/\Ef fn:=by
 $$$(r8 F CY ρ ?B ?L)
 case B=>let nd:=CY.nd;let lk:oU "_law_purse_here":=⟨trivial⟩;$("h")
 ext p m hm;$$$(wj ρ ?w);let(M,q0,t0,a0,b0):=J p (m:=7) ⋯ ⋯;$$$(ah<|aN (v_res ρ) ρ<|aq ?_);$$$(ah<|aN (ay ρ (ag (ff ρ (aa ρ ak) ρ t0 ρ) ρ) ρ) ρ<|aq ?_);$$$(ah<|Vb ?_);$$$(Th (λk t Z=>∃(C:Int×Int) (D:Slot) (cs:List Int),Z=[.no,D,.io<|pD C]/\Fr D/\t=cs.map .int/\cs.length=k) (wc ρ ∅) ρ ρ ρ {_,_,[],ρ,ι ρ,ρ,ρ} ?c7 ?c8 ?c9)
 case c7=>unfold eM c6;rw[a8,me];$_
 case c8=>ext k1 x Q t Z ⟨C,D,cs,rfl,R,rfl,U⟩;$({[.no,.D x,.io<|pD C],by let rfl||(d,rfl):=R<;>rfl,?_});let(v1,u,t1,_,_):=J C (m:=26) ⋯ ⋯;$$$(wd ρ {λh=>(by$$$h),λ_=>Vx (ag (ff ρ (aa ρ ak) ρ t1 ρ) ρ) {ρ,u,_,cs++[v1],ρ,τ {_,ρ},by rw[fv];rfl,by rw[eR,U];rfl}})
 ext t Z ⟨u,D,st,rfl,-,rfl,I⟩;let I:st.length=(1+M).toNat:=by rw[I];$$(eM);rw[a8,me];$_
 let(v2,q,V,a2,b2):=J u (m:=1+M) ∅ ∅;let(a,rfl):=aag a2;let ha:a<st.length:=∅
 let h7:st.length<=7:=∅
 let hL:(1+M)=(st.length:Int):=∅
 rw[hL]at V ⊢;$({pD u,ρ,[.io (pD u),.D<|.int m,.D<|.str "abcdefghijklmnopqrstuvwxyz",.D<|.int st.length,.O<|.L<|st.map .int,.no,.no,.no,.no,.no],ρ,?_});$$$(aq<|ah<|aN (ff ρ (aa ρ ak) ρ V ρ) ρ<|aq ?_);$$$(ah<|aN (ck ak<|nT _) ρ<|aq ?_);$$$(ah<|dD (λk Z=>∃(o r b n:Slot),Z=[.io (pD q),.D<|.int m,.D<|.str "abcdefghijklmnopqrstuvwxyz",.D<|.int st.length,o,.D<|.int a,.O<|.L<|(i8 st a k).map .str,r,b,n]/\Hd o (.L<|st.map .int)/\Fr r/\(Fr b\/∃d,b=.O d)/\Fr n) (wc ρ ∅) ⟨_,_,_,_,ρ,ι ρ,ι ρ,ι<|ι ρ,ι ρ⟩ ?st ?W)
 case W =>
  ext _ ⟨o,r,b,n,rfl,-⟩;let e:(eM 0 (m:Int)).length=m:=by$$(eM);rw[a8,me];$_
  rw[e];$(aq<|ah<|bY ρ<|eB ⟨_,_,_,ρ,ρ,i8 st a m,q,ρ,ρ,VF ha h7 hm⟩)
 ext k x Q _ ⟨o,r,b,n,rfl,h4,f7,f8,f9⟩;let(hk,rfl):=zV Q;$({[.io (pD q),.D<|.int m,.D<|.str "abcdefghijklmnopqrstuvwxyz",.D<|.int st.length,o,.D<|.int a,.O<|.L<|(i8 st a k).map .str,.D<|.int k,b,n],by let rfl||(d,rfl):=f7<;>rfl,?_});let X:((i8 st a k).map Dat.str).length<sizeLine:=by unfold i8 c6;rw[a8,a8,me];$_
 let es:i8 st a (k+1)=i8 st a k++[kf (cR st a k)]:=by$$(i8);rw[abH,fv];rfl
 rw[es,fv];generalize (i8 st a k).map Dat.str=found at *;$$$(ah<|aN (Z2:=[.io (pD q),.D<|.int m,.D<|.str "abcdefghijklmnopqrstuvwxyz",.D<|.int st.length,.D<|.L<|st.map .int,.D<|.int a,.O<|.L found,.D<|.int k,.O<|.L ((hE st.length).map λj=>.int<|qJ st a k j),n]) (cX (enc:=λj:Nat=>.int (j:Int)) (xs:=hE st.length) (λj=>[.no,.D<|.int j,.D<|.int a,.D<|.int k,.D<|.L<|st.map .int]) (λj=>.int<|qJ st a k j) ?d1 ?d2 ?d3 ?d4 ?d5 ?d6) ?d7<|aq ?d8)
 case d1=>rw[<-XO];$(wc ρ ∅)
 case d2=>let rfl||rfl:=h4<;>rfl
 case d3=>rw[me];$$(c6);$_
 case d4=>ext j _ Z (rfl|⟨y,rfl⟩)<;>rfl
 case d5 =>
  ext j v;let v:=hI.1 v;let ix:cT (.L<|st.map .int) (.int (j:Int))=al (.int<|st.getD j 0):=by rw[oP];$(nh (by rw[dk,bt v,l4,bt v];rfl))
  let ei:pR [.bl (bd<|(j:Int)=(a:Int))]=al (.D<|.int (if j=a then 1 else 0)):=by
   ext(e:j=a)
   .rw[if_pos e,decide_eq_true ∅];rfl
   rw[if_neg e,decide_eq_false ∅];rfl
  let m5:eA 5 (k:Int)=bi:=yM ⋯;let m6:eA (5*(k:Int)) (if j=a then 1 else 0)=bi:=uH (by split<;>decide);$(ag (ay (aY ρ ρ ρ ix) (ag (fh<|ay (ag (fh<|ay ρ ρ<|zH m5) ρ) (ag (aC (aa (ag (ay ρ ρ<|eq_int _ _) ρ) ak) ei) ρ)<|zH m6) ρ) ρ) ρ)
 case d6=>$(λ_ _=>rfl)
 case d7=>let(rfl||(d,rfl))||(d,rfl):=f8<;>rfl
 let N:∀l:List Nat,(l.map λj=>(⟨#[jP st a k j]⟩:eS).length).sum=l.length:=λl=>by
  induction l with
  |nil=>rfl
  |cons c l ih=>rw[hH,aa5,ih,g8];$(adA _ _)
 let Y:=Xx (sep:=ia "") (ag (cX (enc:=λj:Nat=>Dat.int<|qJ st a k j) (xs:=hE st.length) (λj=>[.no,.D<|.int<|qJ st a k j,.D<|.str "abcdefghijklmnopqrstuvwxyz"]) (λj=>.str ⟨#[jP st a k j]⟩) (fi:=alt (j8<|eY 8)<|lK<|eY 8) (caps:=[am,am,al 2]) (g:=BD 1) (fe:=nB 2<|ic<|cI (fP (λ_ j=>bd<|0<j) λi j=>Dat.int<|i%j) (eY 1)<|fC<|.int 26) (Z:=[.io (pD q),.D<|.int m,.D<|.str "abcdefghijklmnopqrstuvwxyz",.D<|.int st.length,.D<|.L<|st.map .int,.D<|.int a,.O<|.L found,.D<|.int k,.O<|.L ((hE st.length).map λj=>.int<|qJ st a k j),n]) (bP ρ) ρ (by rw[me];$$(c6);$_) (by ext j _ Z (rfl|⟨y,rfl⟩)<;>rfl) (λj v=>aY ρ (ag (ay ρ ρ ρ) ρ) ρ<|MA (abP _ ⋯)<|aau _ ⋯)<|λ_ _=>rfl) ρ) (D9 (λj=>(⟨#[jP st a k j]⟩:eS))<|hE st.length) {by decide +kernel,by rw[eX,a8,me];let:=N<|hE st.length;rw[me]at this;show((hE st.length).map λj=>(⟨#[jP st a k j]⟩:eS).length).sum+_<=_;$_};rw[X']at Y;$$$(ah<|aN (v_res Y) ?g1<|aq ?g2)
 case g1=>let rfl||(d,rfl):=f9<;>rfl
 let wl:=vY st a k;let tx:sj (cR st a k)=bi:=Gw (by rw[ac3];ext c hc;let:=Jr st a k c<|abA.2 hc;unfold iK at this;rw[e8,decide_eq_true_eq,decide_eq_true_eq]at this;simp;$_)
 let iw:ij false (.str<|cR st a k) (.L [.str "north",.str "east",.str "south",.str "west"])=al (.D<|.bl<|fu<|cR st a k):=Rj tx false;let YA:gN (.str<|cR st a k) (.str<|ia "x")=al (.D<|.str<|cR st a k++ia "x"):=Ie (by rw[wl,show(ia "x").length=1 from by decide +kernel];$$(c6);$_);generalize (hE st.length).map (λj=>Dat.int<|qJ st a k j)=S;let z:∀y,y=kf (cR st a k)->∃o r b n,[.io (pD q),.D<|.int m,.D<|.str "abcdefghijklmnopqrstuvwxyz",.D<|.int st.length,.D<|.L<|st.map .int,.D<|.int a,.O<|.L<|found++[.str y],.D<|.int k,.D<|.L S,.D<|.str y]=[.io (pD q),.D<|.int m,.D<|.str "abcdefghijklmnopqrstuvwxyz",.D<|.int st.length,o,.D<|.int a,.O<|.L<|found++[kf (cR st a k)].map .str,r,b,n]/\Hd o (.L<|st.map .int)/\Fr r/\(Fr b\/∃d,b=.O d)/\Fr n:=λy e=>e ▸ {_,_,_,_,ρ,τ ρ,τ {_,ρ},ι<|τ ⟨_,ρ⟩,τ ⟨_,ρ⟩};let nx:kf (cR st a k)=if fu (cR st a k)then cR st a k++ia "x" else cR st a k:=ρ;generalize cR st a k=x at *;$$$(ah<|eI (bL<|ay ρ (ag (ck (aa ρ<|aa ρ<|aa ρ<|aa ρ ak) (show 4<=c6 by$$(c6);decide)) ρ) iw) ?yes ?no)
 case yes=>ext B;rw[B]at nx;$(ah<|aN (ay ρ ρ YA) ρ<|aq<|aP<|aq<|ah<|gn (gZ ρ ρ X)<|aq<|aP<|z _ nx.symm)
 ext B;rw[B]at nx;$(aP<|aq<|ah<|gn (gZ ρ ρ X)<|aq<|aP<|z _ nx.symm)
structure Gd (o:Ob) (rs:Fl):Prop where
 c:Cuts o (rs.map (·.2))
 f:fG (rs.map (·.2))
def Bd(o:Ob):Prop:=o.l=0/\o.b=0/\0<o.r/\o.r<=999/\0<o.t/\o.t<=999
theorem N8(v:Int)(ys:List Int):ij false (.int v) (.L<|ys.map .int)=al (.D<|.bl<|bd<|v∈ys):=by
 let a:bU (.L<|ys.map .int)=bi:=j7 (by show(ys.map Dat.int).all gr=bi;rw[kz];ext d hd;let(y,_,rfl):=ae.1 hd;rfl)
 show(if(bU (.int v)&&bU (.L<|ys.map .int))=bi then al (Res.D<|.bl<|inD (.int v)<|ys.map .int)else am)=_;rw[l8,a];let e:inD (.int v) (ys.map .int)=bd (v∈ys):=by
  rw[uO,adp,ph,zc,decide_eq_true_eq];constructor
  .ext⟨y,hy,e⟩;let e:=e;simp![jU]
  exact λh=>{v,h,(jU v v).trans (decide_eq_true ρ)}
 rw[e];rfl
theorem GI{Q:Out->Prop}{Ls:List Int}{f:Bool->Int->DS}{c:BF}{fb:SF}(g:∀b v,c (f b v)=al (bd<|v∈Ls,f false v))(i:∀v,fb (f false v)=al (.next<|f false<|v+1)):∀(n:Nat) (b:Bool) (v:Int),(Ls.filter<|λx=>bd<|v<=x).length<n->(∀a,v<=a->a∉Ls->Q (.next<|f false a))->WS (iD c fb n) (f b v) Q
 |0,_,_,h,_=>absurd h (z4 _)
 | n+1,b,v,h,q=>by
  let e:=g b v;by_cases d:v∈Ls
  .rw[decide_eq_true d]at e;refine IU e (i v) (GI g i n false (v+1) ?_ λa h1 j=>q a ∅ j);let k:Ls.filter (λx=>bd<|v+1<=x)=(Ls.filter λx=>bd<|v<=x).filter λx=>bd (v+1<=x):=by
    rw[List.filter_filter];refine aca λx _=>?_;by_cases h:v+1<=x
    .rw[decide_eq_true h,decide_eq_true (by omega:v<=x)];rfl
    rw[decide_eq_false h];rfl
   let:=List.length_filter_lt_length_iff_exists (l:=Ls.filter λx=>bd<|v<=x) (p:=λx=>bd<|v+1<=x) |>.mpr ⟨v,hG.2 ⟨d,decide_eq_true<|ahQ v⟩,by simp;lia⟩;rw[k];omega
  rw[decide_eq_false d]at e;exact G8 e<|q v (ahQ v) d
def co(k:Nat)(o:Ob):Int:=if k=1 then o.l else if k=2 then o.b else if k=3 then o.r else o.t
def mE(k:Nat)(c:Int)(o:Ob):Ob:=if k=1 then⟨o.l,o.b,c,o.t⟩else⟨o.l,o.b,o.r,c⟩
def qX(k:Nat)(c:Int)(o:Ob):Ob:=if k=1 then⟨c,o.b,o.r,o.t⟩else⟨o.l,c,o.r,o.t⟩
theorem pK(x:eS×Ob){k:Nat}(a:k=1\/k=2\/k=3\/k=4):cT (ai x) (.int (k:Int))=al (.int<|co k x.2):=by let rfl||rfl||rfl||rfl:=a<;>rfl
theorem Gd.cut{o:Ob}{A B:Fl}{x:eS×Ob}(g:Gd o (A++x::B)){k:Nat}(j:k=1\/k=2){c:Int}(l:co k x.2<c)(m:c<co (k+2) x.2)(e:∀y∈A++x::B,co k y.2≠c/\co (k+2) y.2≠c)(nm:eS):Gd o (A++[(x.1,mE k c x.2)]++B++[(nm,qX k c x.2)]):=by
 let(f,i):=g;rw[fv,hH]at f i;let ok:x.2.ok:=by let:=f.aU x.2 ⋯;$(⟨this.2.1,this.2.2.2.2.1⟩)
 let ex:(A.map (·.2)++x.2::B.map (·.2))[A.length]?=al x.2:=by rw[kq ⋯,a8,adz];rfl
 let sp:∀d,Cuts x.2 d->Cuts o (A.map (·.2)++d++B.map (·.2)):=λd h=>by let:=f.RS ex h;simp![List.drop_append,List.drop_of_length_le]
 let pm:∀a b:Ob,(A.map (·.2)++[a]++B.map (·.2)++[b]).Perm (A.map (·.2)++[a,b]++B.map (·.2)):=by simp[List.Perm.append_left]
 constructor
 .rw[fv,fv,fv];$((sp [mE k c x.2,qX k c x.2] ?_).perm (pm _ _));let rfl||rfl:=j
  .$(Cuts.on ok l m)
  $(Cuts.up ok l m)
 rw[fv,fv,fv];let e:∀z∈A.map (·.2)++x.2::B.map (·.2),co k z≠c/\co (k+2) z≠c:=λz hz=>by rw[<-hH,<-fv]at hz;let(y,n,rfl):=ae.1 hz;$(e y n)
 let rfl||rfl:=j
 .$(i.Mw ok e)
 $(i.WH ok e)
def Hy(fn:fq):Prop:=∀(p:Int×Int) (rs:Fl) (nm:eS) (o:Ob),Bd o->Gd o rs->0<rs.length->rs.length<8->∃r b,fn (pD p) [aw rs,.str nm]=al (r,b)/\∃(a:Fl) (c:Int×Int),r.val=aw a/\b=pD c/\Gd o a/\(a=rs\/(a.map (·.1)).Perm (nm::rs.map (·.1)))
def O1(T:Txt mg)(p1:ba P w K mg base "_law_draw" 1 (fR K 0 D))(I:qR D)(F:bb K "_law_cut" "_law_cut" yJ f R):∃fn,aV P w K mg base bc 2 f R ["_law_purse_here","_law_rows","_law_name"] (fR K 0 fn)/\Hy fn:=by
 $$$(r8 F Dm ρ ?J ?L)
 case J=>let nd:=Dm.nd;let lk:oU "_law_purse_here":=⟨trivial⟩;$("h")
 clear T F p1;ext p rs nm o J g h0 h8;$$$(wj ρ ?w);show WS _ [.io (pD p),.D<|aw rs,.D<|.str nm,.no,.no,.no,.no,.no,.no,.no] _;let ln:eQ (aw rs)=al rs.length:=by simp[aw,eQ]
 let(v0,q0,t0,a0,b0):=I p (m:=(rs.length:Int)) ∅ ⋯;let(at_,rfl):=aag a0;let S:at_<rs.length:=⋯;$$$(ah<|aN (ff ρ (aa (iX ρ ln) ak) ρ t0 ρ) ρ<|aq ?_);let(M,N,U,V,b1):=I q0 (m:=2) ⋯ ⋯;obtain⟨k,h,ek⟩:∃k:Nat,(k=1\/k=2)/\1+M=(k:Int):={(1+M).toNat,∅,∅};$$$(ah<|aN (ay ρ (ag (ff ρ (aa ρ ak) ρ U ρ) ρ) (by show al (Res.D<|.int<|1+M)=_;rw[ek])) ρ<|aq ?_);obtain⟨x,ex⟩:∃x,rs[at_]?=al x:={_,bt S};let hx:=eH ex;let ir:cT (aw rs) (.int (at_:Int))=al (ai x):=by show gb (rs.map ai) at_=_;$(nh (by rw[dk,ex];rfl))
 $$$(ah<|aN (v_res<|aY ρ ρ ρ ir) ρ<|aq ?_);let u:∀y,cT (ai y) (.int (k:Int))=al (.int<|co k y.2):=λy=>pK y ∅;let B:∀y,cT (ai y) (.int<|(k:Int)+2)=al (.int<|co (k+2) y.2):=λy=>pK y (k:=k+2) ∅;let bx:∀y∈rs,0<=co k y.2/\co k y.2<co (k+2) y.2/\co (k+2) y.2<=999:=λy i=>by
  let:=g.c.aU y.2<|ae.2 ⟨y,i,ρ⟩;unfold Bd at J;let rfl||rfl:=h
  .show 0<=y.2.l/\y.2.l<y.2.r/\y.2.r<=999;$_
  show 0<=y.2.b/\y.2.b<y.2.t/\y.2.t<=999;$_
 let hxb:=bx x hx;let gH:∀(q:Int×Int),∃(d:Fl) (p':Int×Int),(Res.D<|aw rs).val=aw d/\pD q=pD p'/\Gd o d/\(d=rs\/(d.map (·.1)).Perm (nm::rs.map (·.1))):=λq=>{rs,q,ρ,ρ,g,ι ρ};$$$(ah<|eI (bL<|ay (ag (ay (aY ρ (ag (ay ρ ρ ρ) ρ) ρ<|B x) (aY ρ ρ ρ<|u x) ρ) ρ) ρ ρ) ?W ?no)
 case W=>$(λ_=>ah<|bY ρ<|eB ⟨_,_,_,ρ,ρ,gH N⟩)
 ext X;let X:¬co (k+2) x.2-co k x.2<2:=by$$$$X
 $$$(aP<|aq ?_);let sz:rs.length<=sizeLine:=∅
 $$$(ah<|aN (Z2:=[.io (pD N),.D<|aw rs,.D<|.str nm,.D<|.int at_,.D<|.int k,.D<|ai x,.O<|.L<|(rs.map (λy=>co k y.2)++rs.map (λy=>co (k+2) y.2)).map .int,.no,.no,.no]) (ay (r:=.O<|.L<|(rs.map (λy=>co k y.2)++rs.map (λy=>co (k+2) y.2)).map .int) (ag (cX (enc:=ai) (xs:=rs) (λy=>[.no,.D<|ai y,.D<|.int k]) (λy=>.int<|co k y.2) (bP ρ) ρ sz (by ext y _ Z (rfl|⟨z,rfl⟩)<;>rfl) (λy _=>aY ρ ρ ρ<|u y)<|λ_ _=>rfl) ρ) (ag (cX (enc:=ai) (xs:=rs) (λy=>[.no,.D<|ai y,.D<|.int k]) (λy=>.int<|co (k+2) y.2) (bP ρ) ρ sz (by ext y _ Z (rfl|⟨z,rfl⟩)<;>rfl) (λy _=>aY ρ (ag (ay ρ ρ ρ) ρ) ρ<|B y)<|λ_ _=>rfl) ρ) ?Y) ρ<|aq ?_)
 case Y=>rw[fv,eX,eX];$(if_pos (by rw[a8,a8];$$(c6);$_))
 generalize hL:rs.map (λy=>co k y.2)++rs.map (λy=>co (k+2) y.2)=Ls;let YB:Ls.length<1000:=by rw[<-hL,eR,a8,a8];$_
 let(v2,C,t2,a2,b2):=I N (m:=co (k+2) x.2-co k x.2-1) ∅ ∅;$$$(ah<|aN (ay (ag (ay (aY ρ ρ ρ<|u x) ρ ρ) ρ) (ag (ff ρ (aa (ag (ay (ag (ay (aY ρ (ag (ay ρ ρ ρ) ρ) ρ<|B x) (aY ρ ρ ρ<|u x) ρ) ρ) ρ ρ) ρ) ak) ρ t2 ρ) ρ) ρ) ρ<|aq ?_);$$$(ah<|GI (Ls:=Ls) (f:=λb v=>[.io (pD C),.D<|aw rs,.D<|.str nm,.D<|.int at_,.D<|.int k,.D<|ai x,(if b then .O (.L<|Ls.map .int)else .D (.L<|Ls.map .int)),.D<|.int v,.no,.no]) ?w1 ?w2 rW true _ ?w3 ?w4)
 case w1=>$(λb v=>by$$$b<;>$(bL<|ay ρ ρ<|N8 v Ls))
 case w2=>$(λv=>rfl)
 case w3=>$(xr (px _ _) YB)
 ext c hc j;show AQ _ _ (.next [.io (pD C),.D<|aw rs,.D<|.str nm,.D<|.int at_,.D<|.int k,.D<|ai x,.D<|.L<|Ls.map .int,.D<|.int c,.no,.no]);$$$(aq<|ah<|eI (bL<|ay ρ (aY ρ (ag (ay ρ ρ ρ) ρ) ρ<|B x) ρ) ?y2 ?O)
 case y2=>$(λ_=>ah<|bY ρ<|eB ⟨_,_,_,ρ,ρ,gH C⟩)
 ext G;let G:¬co (k+2) x.2<=c:=by$$$$G
 $$$(aP<|aq ?_);let n1:∀l:List Dat,l.length=5->iC l.length ((k:Int)+2)=al (k+2):=λl hl=>by rw[hl];let rfl||rfl:=h<;>rfl
 let O:∀l:List Dat,l.length=5->iC l.length (k:Int)=al k:=λl hl=>by rw[hl];let rfl||rfl:=h<;>rfl
 let n0:∀l:List Dat,l.length=5->iC l.length 0=al 0:=λl hl=>by rw[hl];rfl
 obtain⟨ds,n⟩:∃ds,ds=[Dat.str x.1,.int x.2.l,.int x.2.b,.int x.2.r,.int x.2.t]:={_,ρ};let er:ai x=.U ds:=by rw[n];rfl
 let Q:ds.length=5:=by rw[n];rfl
 let eL:Dat.U (ds.set (k+2)<|.int c)=ai (x.1,mE k c x.2):=by rw[n];let rfl||rfl:=h<;>rfl
 let eU:Dat.U ((ds.set 0<|.str nm).set k (.int c))=ai (nm,qX k c x.2):=by rw[n];let rfl||rfl:=h<;>rfl
 clear n;rw[er];$$$(ah<|aN (aC (aa ρ ak) ρ) ρ<|aq ?_);$$$(ah {_,fh<|wU ρ ρ (ag (ay ρ ρ ρ) ρ) ρ (n1 ds Q) ρ,aq ?_});$$$(ah<|aN (aC (aa ρ ak) ρ) ρ<|aq ?_);$$$(ah {_,fh<|wU ρ ρ ρ ρ (n0 ds Q) ρ,aq ?_});$$$(ah {_,fh<|wU ρ ρ ρ ρ (O _ (by rw[LK];$Q)) ρ,aq ?_});let YE:fQ (aw rs) am (al (at_:Int))=al (.O<|.L<|(rs.take at_).map ai):=by show al (Res.O<|.L<|cutD (rs.map ai) am<|al (at_:Int))=_;rw[sX,aby]
 let YF:fQ (aw rs) (al<|(at_:Int)+1) am=al (.O<|.L<|(rs.drop<|at_+1).map ai):=by show al (Res.O<|.L<|cutD (rs.map ai) (al ((at_+1:Nat):Int)) am)=_;rw[qm,aax]
 let ad:∀(a b:Fl),a.length<=20->b.length<=20->gN (.L<|a.map ai) (.L<|b.map ai)=al (.O<|.L<|(a++b).map ai):=λa b h1 h2=>by rw[fv];$(if_pos (by rw[a8,a8];$$(c6);$_))
 let U:(rs.take at_).length<=8:=by rw[iW];$_
 let t2:(rs.drop<|at_+1).length<=8:=by rw[tm];$_
 let s1:1<=sizeLine:=∅
 let cL:pZ [.L (ds.set (k+2)<|.int c)]=al (.D<|ai (x.1,mE k c x.2)):=by rw[<-eL];rfl
 let cU:pZ [.L ((ds.set 0<|.str nm).set k (.int c))]=al (.D<|ai (nm,qX k c x.2)):=by rw[<-eU];rfl
 let V:=ad (rs.take at_) [(x.1,mE k c x.2)] ∅ ⋯;let a2:=ad (rs.take at_++[(x.1,mE k c x.2)]) (rs.drop<|at_+1) (by rw[eR];simp;$_) ∅;let a3:=ad (rs.take at_++[(x.1,mE k c x.2)]++rs.drop (at_+1)) [(nm,qX k c x.2)] (by rw[eR,eR];simp;$_) ⋯;generalize ds.set (k+2) (.int c)=dl at *;generalize (ds.set 0<|.str nm).set k (.int c)=du at *;$$$(ah<|bY (ay (ag (ay (ag (ay (ag (uX ρ ρ YE) ρ) (ag (ck (aa (ag (aC (aa ρ ak) cL) ρ) ak) s1) ρ) V) ρ) (ag (la ρ (ag (ay ρ ρ ρ) ρ) YF) ρ) a2) ρ) (ag (ck (aa (ag (aC (aa ρ ak) cU) ρ) ak) s1) ρ) a3)<|eB ⟨_,_,_,ρ,ρ,rs.take at_++[(x.1,mE k c x.2)]++rs.drop (at_+1)++[(nm,qX k c x.2)],C,ρ,ρ,?_,τ ?_⟩)
 .let e:=Ac ex;let g':=g;rw[e]at g';$(g'.cut h ∅ ∅ (λy i=>?_) nm);rw[<-e]at i;rw[<-hL]at j;$({λz=>j<|eK.2<|ι<|ae.2 ⟨y,i,z⟩,λz=>j<|eK.2<|τ<|ae.2 ⟨y,i,z⟩})
 let e:=Ac ex;rw[fv];$((aee nm _).trans (List.Perm.cons nm<|adh ?_))
 conv=>rhs;rw[e]
 simp
theorem Gd.top{o:Ob}{rs:Fl}(b:Bd o)(g:Gd o rs):∃z∈rs,z.2.r=o.r/\z.2.t=o.t:=by
 unfold Bd at b;let(y,a,k1,k2,k3,k4):=filled (W:=o.r.toNat) (H:=o.t.toNat) (x:=o.r-1) (y:=o.t-1) (λp d=>by
  let:=g.c.aU p d;$({⋯,⋯,∅,⋯,⋯,∅})) g.c.ap (by
  rw[g.c.ar];delta Ob.area;rw[b.1,b.2.1,acK,acK,aa3 ∅,aa3 ∅]) ∅ ∅ ∅ ∅
 let:=g.c.aU y a;grind
theorem Gd.oX{o:Ob}{rs:Fl}(b:Bd o)(g:Gd o rs):bB rs=o.r/\bH rs=o.t:=by
 let(z,hz,e,f):=g.top b;let i:=λx a=>g.c.aU x a;constructor
 .$(wZ (λx a=>?_) (ae.2 ⟨z,hz,e⟩));let(y,d,rfl):=ae.1 a;$((i _<|ae.2 ⟨y,d,ρ⟩).2.2.1)
 $(wZ (λx a=>?_) (ae.2 ⟨z,hz,f⟩));let(y,d,rfl):=ae.1 a;$((i _<|ae.2 ⟨y,d,ρ⟩).2.2.2.2.2)
structure Drawn (rs:Fl):Prop where
 fl:aE rs
 mt:tX rs=bn
 ok:gX rs
 sm:∀x∈rs,x.2.r<=999/\x.2.t<=999
def Gd.drawn (b:Bd o)(g:Gd o rs)(j:rs.length<=8)(d:∀x∈rs,eF x.1=bi)(nd:(rs.map (·.1)).Nodup):Drawn rs:=by
 let(k,m):=g.oX b;let(z,hz,_):=g.top b;let i:∀x∈rs,o.l<=x.2.l/\x.2.l<x.2.r/\x.2.r<=o.r/\o.b<=x.2.b/\x.2.b<x.2.t/\x.2.t<=o.t:=λx a=>g.c.aU x.2<|ae.2 ⟨x,a,ρ⟩;let b':=b;unfold Bd at b';$({{λe=>(by rw[e]at hz;$$$hz),j,d,λx a=>?_,nd,gd.1 g.c.ap,?_},?_,{λx a=>tG<|d x a,λx a=>?_,by lia},λx a=>?_})
 .let:=i x a;$_
 .let:=g.c.ar;rw[eX]at this;delta eZ;simp?[k,m,show(λx:eS×Ob=>x.2.area)=(Ob.area ∘ λx:eS×Ob=>x.2)from ρ,this];delta Ob.area;simp?[b.1,b.2.1,acK]
 .delta tX;rw[decide_eq_false_iff_not];ext⟨p,_,h⟩;$(absurd (g.f p)<|Nat.not_le.2 h)
 .let:=i x a;$_
 let:=i x a;$_
def nR(W:Int)(o:Ob):Ob:={W-o.r,o.b,W-o.l,o.t}
def Gd.zw (b:Bd o)(g:Gd o rs):Gd o (rs.map λy=>(y.1,nR o.r y.2)):=by
 let e:(rs.map λy=>(y.1,nR o.r y.2)).map (·.2)=(rs.map (·.2)).map (nR o.r):=by simp?[eX,eX];rfl
 delta Bd at b;constructor
 .rw[e];$({λx a=>?_,?_,?_})
  .let(y,d,rfl):=ae.1 a;let:=g.c.aU y d;dsimp[nR];$_
  .$(gd.2 (g.c.ap.imp λ{x y} h=>?_));unfold Apart at h ⊢;dsimp[nR];lia
  rw[eX,<-g.c.ar];congr 1;$(t9 λx _=>?_)
  show(o.r-x.l-(o.r-x.r))*(x.t-x.b)=(x.r-x.l)*(x.t-x.b);congr 1
  lia
 rw[e];$(g.f.zw o.r)
def Gd.one (x:eS)(h:o.ok):Gd o [(x,o)]:={Cuts.one h,fG.one o h}
theorem Gd.perm{o:Ob}{rs a:Fl}(g:Gd o rs)(p:a.Perm rs):Gd o a:={g.c.perm<|p.map _,g.f.perm<|p.map _}
def Ua{a:AF}{Z Z1:DS}{lo n:Int}(h:a Z=al ([.int lo,.int n],Z1))(b:-(2 ^ 62)<=lo/\lo<2 ^ 62/\-(2 ^ 62)<=n/\n<2 ^ 62):uw a Z=al (eM lo n,Z1):=by delta uw;rw[h];$(if_pos b)
def V5{lo n:Int}{k:Nat}{x:Dat}(h:(eM lo n)[k]?=al x):lo+(k:Int)<n/\x=.int (lo+k):=by let a:=(cn.1 h).1;unfold eM at a h;rw[dk]at h;simp?[a8,me]at a;rw[aaZ a]at h;simp at h;$({⋯,h.symm})
theorem OX (h0:rs≠[])(nd:(rs.map (·.1)).Nodup)(h:rs.length<64):kP [aw rs]=al (.O<|aw<|rS rs):=by
 let d:dS (rs.map ai)=am:=by
  cases rs with
  |nil=>cases h0 ρ
  |cons x l=>rfl
 show(match dS (rs.map ai)with
  |some c=>if c.length<64 then al (Res.O<|.L<|(aD c).map .str)else am
  |none=>j6 [.L (rs.map ai)])=_
 rw[d];show(firstsD<|rs.map ai).bind _=_;rw[U2];show(if _ then _ else _)=_;rw[if_pos {nd,by rw[a8];$h},Pc rs ai λa _ b _=>rfl];rfl
def Wu(rs):(rS rs).Perm rs:=gk _ _
def D6(fn:fq):Prop:=∀p (m:Nat),1<=m->m<=8->∃r a,fn (pD p) [.int m]=al (r,a)/\∃(rs:Fl) (b:Int×Int),r=.O (aw rs)/\a=pD b/\Drawn rs
theorem UW(T:Txt mg)(p1:ba P w K mg base "_law_draw" 1 (fR K 0 YH))(V:qR YH)(p2:ba P w K mg base "_law_names" 2 (fR K 0 YI))(s2:Ef YI)(p3:ba P w K mg base "_law_cut" 2 (fR K 0 YJ))(s3:Hy YJ)(F:bb K "_law_floor" "_law_floor" Bp f fd):∃fn,aV P w K mg base bc 3 f fd ["_law_purse_here","_law_most"] (fR K 0 fn)/\D6 fn:=by
 $$$(r8 (j:=0) F F6 (n:=1) ρ ?hb ?post)
 case hb=>let nd:=F6.nd;let lk:oU "_law_purse_here":=⟨trivial⟩;$("h")
 clear T F p1 p2 p3;ext p m m1 m8;$$$(wj ρ ?w);show WS _ [.io (pD p),.D<|.int m,.no,.no,.no,.no,.no] _;let(r,c1,e1,a,q1,rfl,rfl,hl,YZ,YK):=s2 p m m8;let U:∀j:Nat,j<m->∃x,a[j]?=al x/\cT (.L<|a.map .str) (.int (j:Int))=al (.str x):=λj hj=>by let YL:j<a.length:=⋯;$({a[j],bt YL,?_});simp?[oP];$(nh (by simp?[dk,bt YL];rfl))
 $$$(ah<|aN (Z2:=[.io (pD q1),.D<|.int m,.O<|.L<|a.map .str,.no,.no,.no,.no]) (ff ρ (aa ρ ak) ρ e1 ρ) ρ<|aq ?_);let(D,w0,i0):=U 0 (by lia);let(G,q2,t2,a2,b2):=V q1 (m:=400) ⋯ ⋯;let(I,q3,B,a3,b3):=V q2 (m:=400) ⋯ ⋯;let s1:1<=sizeLine:=∅
 let J:5<=sizeLine:=∅
 $$$(ah<|aN (Z2:=[.io (pD q3),.D<|.int m,.O<|.L<|a.map .str,.O<|aw [(D,⟨0,0,600+G,600+I⟩)],.no,.no,.no]) (ck (aa (dW (aa (aY ρ ρ ρ i0)<|aa ρ<|aa ρ<|aa (ag (ay ρ (ag (ff ρ (aa ρ ak) ρ t2 ρ) ρ) ρ) ρ)<|aa (ag (ay ρ (ag (ff ρ (aa ρ ak) ρ B ρ) ρ) ρ) ρ) ak) J) ak) s1) ρ<|aq ?_);let(c,q4,t4,a4,b4):=V q3 (m:=(m:Int)) ∅ (by lia);$$$(ah<|aN (Z2:=[.io (pD q4),.D<|.int m,.O<|.L<|a.map .str,.O<|aw [(D,⟨0,0,600+G,600+I⟩)],.D<|.int<|1+c,.no,.no]) (ay ρ (ag (ff ρ (aa ρ ak) ρ t4 ρ) ρ) ρ) ρ<|aq ?_);let tk:∀{j:Nat}{x:eS},a[j]?=al x->a.take (j+1)=a.take j++[x]:=λ{j x} e=>eC e;$$$(ah (WS.mono (Q:=λu=>∃(q:Int×Int) (rs:Fl) (o:Ob),u=.next [.io (pD q),.D<|.int m,.O<|.L<|a.map .str,.O<|aw rs,.D<|.int<|1+c,.no,.no]/\Bd o/\Gd o rs/\rs.map (·.1)=a.take rs.length/\1<=rs.length/\rs.length<=m) ?first ?L))
 case first =>
  let dflt:∀q,∃(W:Int×Int) (rs:Fl) (o:Ob),Out.next [.io (pD q),.D<|.int m,.O<|.L<|a.map .str,.O<|aw [(D,⟨0,0,600+G,600+I⟩)],.D<|.int<|1+c,.no,.no]=.next [.io (pD W),.D<|.int m,.O<|.L<|a.map .str,.O<|aw rs,.D<|.int<|1+c,.no,.no]/\Bd o/\Gd o rs/\rs.map (·.1)=a.take rs.length/\1<=rs.length/\rs.length<=m:=λq=>{q,_,{0,0,600+G,600+I},ρ,{ρ,ρ,show 0<600+G by$_,show 600+G<=999 by$_,show 0<600+I by$_,show 600+I<=999 by$_},Gd.one D {show 0<600+G by$_,show 0<600+I by$_},by let:=tk w0;simp?[abc]at this;$this.symm,eT _,m1}
  let(v5,q5,v,a5,b5):=V q4 (m:=2) ⋯ ⋯;let g4:fT (cI (fP (λ_ _=>true) λi j=>Dat.bl<|bd<|j<i) (eY 4)<|fC<|.int 4) [.io (pD q4),.D<|.int m,.O<|.L<|a.map .str,.O<|aw [(D,⟨0,0,600+G,600+I⟩)],.D<|.int<|1+c,.no,.no]=al (bd<|4<1+c,_):=bL<|ay ρ ρ ρ;$$$(nP<|C8<|wd g4 ⟨λh=>?_,λ_=>⟨nofun,λ_=>aP<|dflt q4⟩⟩);let h:4<1+c:=of_decide_eq_true h;$$$(wd (bL<|ay (ag (ff ρ (aa ρ ak) ρ v ρ) ρ) ρ<|eq_int _ _) {λ_=>?_,λ_=>aP<|dflt q5});let(x1,w1,i1):=U 1 ∅;let(x2,w2,i2):=U 2 ∅;let(x3,w3,i3):=U 3 ∅;let(x4,w4,i4):=U 4 ∅;let s3:3<=sizeLine:=∅
  let s2:2<=sizeLine:=∅
  $$$(ah<|aN (Z2:=[.io (pD q5),.D<|.int m,.O<|.L<|a.map .str,.O<|aw [(D,⟨0,0,200,100⟩),(x1,⟨200,0,300,200⟩),(x2,⟨100,200,300,300⟩)],.D<|.int<|1+c,.no,.no]) (ck (aa (dW (aa (aY ρ ρ ρ i0) ρ) J)<|aa (dW (aa (aY ρ ρ ρ i1) ρ) J)<|aa (dW (aa (aY ρ ρ ρ i2) ρ) J) ak) s3) ρ<|aq ?_);$$$(ah<|aN (Z2:=[.io (pD q5),.D<|.int m,.O<|.L<|a.map .str,.O<|aw [(D,⟨0,0,200,100⟩),(x1,⟨200,0,300,200⟩),(x2,⟨100,200,300,300⟩),(x3,⟨0,100,100,300⟩),(x4,⟨100,100,200,200⟩)],.D<|.int<|1+c,.no,.no]) (ay ρ (ag (ck (aa (dW (aa (aY ρ ρ ρ i3) ρ) J)<|aa (dW (aa (aY ρ ρ ρ i4) ρ) J) ak) s2) ρ) ρ) ρ<|aq<|aP ?_);$(⟨q5,_,{0,0,300,300},ρ,{ρ,ρ,⋯,⋯,⋯,⋯},(λa b c d e=>by
    $({Cuts.QV,λp=>?_});let key:∀q∈dA [{0,0,200,100},{200,0,300,200},{100,200,300,300},{0,100,100,300},{100,100,200,200}],(dA [{0,0,200,100},{200,0,300,200},{100,200,300,300},{0,100,100,300},{100,100,200,200}]).count q<=3:=by decide +kernel
    ext(h:p∈dA [{0,0,200,100},{200,0,300,200},{100,200,300,300},{0,100,100,300},{100,100,200,200}])
    .$(key p h)
    show(dA [{0,0,200,100},{200,0,300,200},{100,200,300,300},{0,100,100,300},{100,100,200,200}]).count p<=3;rw[ac8.2 h]
    lia) D x1 x2 x3 x4,?_,⋯,by simp;$_⟩)
  show[D,x1,x2,x3,x4]=a.take 5;simp?[tk w4,tk w3,tk w2,tk w1,tk w0];rfl
 case L =>
  ext _ ⟨q,b,o,rfl,bo,g0,en,l1,lm⟩;$$$(aq ?_);let ln:eQ (aw b)=al b.length:=by simp[aw,eQ]
  $$$(ah (dD (λk Z=>∃(q:Int×Int) (rs:Fl) (B v:Slot),Z=[.io (pD q),.D<|.int m,.O<|.L<|a.map .str,B,.D<|.int<|1+c,v,.no]/\Hd B (aw rs)/\Fr v/\Gd o rs/\1<=rs.length/\rs.length<=b.length+k/\(rs.map (·.1)).Nodup/\∀y∈rs.map (·.1),y∈a.take (b.length+k)) (Ua (aa (iX ρ ln)<|aa ρ ak) {by lia,by lia,by lia,by lia}) {q,b,_,_,ρ,ι ρ,ι ρ,g0,l1,eT _,by rw[en];$(md (abd _ _) YK),λy M=>by rw[en]at M;$M} ?st ?fin))
  case st =>
   ext k x hx _ ⟨q,rs,B,v,rfl,h3,f5,g,X,YM,Y,C⟩;let(hk,rfl):=V5 hx;let(x,wx,ix):=U (b.length+k) (by lia);let ix:cT (.L<|a.map .str) (.int<|(b.length:Int)+k)=al (.str x):=ix;$({[.io (pD q),.D<|.int m,.O<|.L<|a.map .str,B,.D<|.int<|1+c,.D<|.int<|(b.length:Int)+k,.no],by let rfl||(d,rfl):=f5<;>rfl,?_});let(r,c1,ec,l,W,er,rfl,g',R):=s3 q rs x o bo g X (by lia);let f3:eY 3 [.io (pD q),.D<|.int m,.O<|.L<|a.map .str,B,.D<|.int<|1+c,.D<|.int<|(b.length:Int)+k,.no]=al (aw rs,[.io (pD q),.D<|.int m,.O<|.L<|a.map .str,.D<|aw rs,.D<|.int<|1+c,.D<|.int<|(b.length:Int)+k,.no]):=by let rfl||rfl:=h3<;>rfl
   let tw:=tk wx;let nx:x∉a.take (b.length+k):=λz=>by let:=md (abd (b.length+k+1) a) YK;rw[tw,aaK]at this;$(this.2.2 x z x ⋯ ρ)
   let key:∃t,mj 3 r [.io (pD W),.D<|.int m,.O<|.L<|a.map .str,.D<|aw rs,.D<|.int<|1+c,.D<|.int<|(b.length:Int)+k,.no]=al [.io (pD W),.D<|.int m,.O<|.L<|a.map .str,t,.D<|.int<|1+c,.D<|.int<|(b.length:Int)+k,.no]/\Hd t (aw l):=by
    cases r with
    |D d=>$({_,ρ,τ (by rw[<-er];rfl)})
    |O d=>$({_,ρ,ι (by rw[<-er];rfl)})
   let(t,e3,YA):=key;$$$(ah<|aN (ff ρ (aa f3<|aa (aY ρ ρ ρ ix) ak) ρ ec ρ) e3<|aq<|aP ⟨W,l,t,_,ρ,YA,τ ⟨_,ρ⟩,g',?_,?_,?_,?_⟩)
   .let rfl||N:=R
    .$X
    let:=N.length_eq;simp?[a8,g8]at this;lia
   .let rfl||N:=R
    .lia
    let:=N.length_eq;simp?[a8,g8,a8]at this;lia
   .let rfl||N:=R
    .$Y
    $(N.nodup_iff.2<|qo.2 ⟨λz=>nx<|C x z,Y⟩)
   ext y M;show y∈a.take (b.length+k+1);rw[tw,eK];let rfl||N:=R
   .$(ι<|C y M)
   let rfl||z:=eW.1 (N.mem_iff.1 M)
   .$(τ ⋯)
   $(ι<|C y z)
  ext _ ⟨q,rs,B,v,rfl,h3,f5,g,X,YM,Y,C⟩;let hlen:(eM (b.length:Int)<|1+c).length<=8-b.length:=by$$(eM);simp?[a8,me];lia
  let h8:rs.length<=8:=by lia
  let Y7:∀y∈rs.map (·.1),eF y=bi:=λy M=>YZ y<|abC<|C y M;clear C YM;let(v6,O,t6,a6,b6):=V q (m:=2) ⋯ ⋯;$$$(aq (ah (WS.mono (Q:=λu=>∃(l:Fl) (t t6:Slot),u=.next [.io (pD O),.D<|.int m,.O<|.L<|a.map .str,t,.D<|.int<|1+c,v,t6]/\Hd t (aw l)/\Gd o l/\l.map (·.1)=rs.map (·.1)) (eI (bL<|ay (ag (ff ρ (aa ρ ak) ρ t6 ρ) ρ) ρ<|eq_int _ _) ?yes ?no) ?L)))
  case no=>$(λ_=>aP {rs,B,_,ρ,h3,g,ρ})
  case yes =>
   ext _;let sz:rs.length<=sizeLine:=by$$(c6);lia
   let f3:alt (j8<|eY 3) (lK<|eY 3) [.io (pD O),.D<|.int m,.O<|.L<|a.map .str,B,.D<|.int<|1+c,v,.no]=al (rs.map ai,[.io (pD O),.D<|.int m,.O<|.L<|a.map .str,.D<|aw rs,.D<|.int<|1+c,v,.no]):=bP (by let rfl||rfl:=h3<;>rfl);let mx:fI (rs.map λy=>y.2.r)=o.r:=(g.oX bo).1;let bm:=lO (λy:eS×Ob=>y.2.r) (cs:=rs) (λe=>by rw[e]at X;simp at X);rw[mx]at bm;$$$(ah<|aN (Z2:=[.io (pD O),.D<|.int m,.O<|.L<|a.map .str,.D<|aw rs,.D<|.int<|1+c,v,.D<|.int o.r]) (aC (aa (ag (cX (enc:=ai) (xs:=rs) (λy=>[.no,.D<|ai y]) (λy=>.int y.2.r) f3 ρ sz ?a1 (λy _=>aY ρ ρ ρ ρ)<|λ_ _=>rfl) ρ) ak) bm) ρ<|aq ?_)
   case a1=>ext y _ Z (rfl|⟨z,rfl⟩)<;>rfl
   $$$(ah<|aN (Z2:=[.io (pD O),.D<|.int m,.O<|.L<|a.map .str,.O<|aw (rs.map λy=>(y.1,nR o.r y.2)),.D<|.int<|1+c,v,.D<|.int o.r]) (cX (enc:=ai) (xs:=rs) (λy=>[.no,.D<|ai y,.D<|.int o.r]) (λy=>ai (y.1,nR o.r y.2)) (bP ρ) ρ sz ?a2 (λy _=>dW (aa (aY ρ ρ ρ ρ)<|aa (ag (ay ρ (aY ρ ρ ρ ρ) ρ) ρ)<|aa (aY ρ ρ ρ ρ)<|aa (ag (ay ρ (aY ρ ρ ρ ρ) ρ) ρ)<|aa (aY ρ ρ ρ ρ) ak) J)<|λ_ _=>rfl) ?a3<|aq<|aP ⟨_,_,_,ρ,ι ρ,g.zw bo,?a4⟩)
   case a2=>ext y _ Z (rfl|⟨z,rfl⟩)<;>rfl
   case a3=>$$(aw);rw[eX];rfl
   rw[eX];rfl
  case L =>
   ext _ ⟨l,t,Y8,rfl,YA,g',S⟩;let YN:l.length=rs.length:=by let:=congrArg List.length S;simp?[a8,a8]at this;$this
   let pm:=Wu l;$$$(aq<|ah<|bY (fh<|aC (aa (Z1:=[.io (pD O),.D<|.int m,.O<|.L<|a.map .str,.D<|aw l,.D<|.int<|1+c,v,Y8]) ?b1 ak)<|OX (λe=>by rw[e]at YN;simp at YN;lia) (by rw[S];$Y) ∅)<|eB ⟨_,_,_,ρ,ρ,rS l,O,ρ,ρ,(g'.perm pm).drawn bo (by rw[pm.length_eq];lia) (λx hx=>Y7 _ (by rw[<-S];$(ae.2 ⟨x,pm.mem_iff.1 hx,ρ⟩))) ((pm.map _).nodup_iff.2 (by rw[S];$Y))⟩);let rfl||rfl:=YA<;>rfl
def JI(fn:aS):Prop:=∀(x y:eS×Ob) (k:Nat),k=1\/k=2->x.2.ok->y.2.ok->fn [ai x,ai y,.int (k:Int)]=al (.D<|.bl<|dP k x.2 y.2)
def sJ (a:k=1\/k=2)(c:x.ok)(d:y.ok):bd ((if co k y>co k x then co k y else co k x)<(if co (k+2) y<co (k+2) x then co (k+2) y else co (k+2) x))=dP k x y:=by
 delta Ob.ok at c d;rw[ph,decide_eq_true_eq];let rfl||rfl:=a
 .show (if y.l>x.l then y.l else x.l)<(if y.r<x.r then y.r else x.r)↔(bd (x.l<y.r)&&bd (y.l<x.r))=bi;simp;split<;>split<;>$_
 show(if y.b>x.b then y.b else x.b)<(if y.t<x.t then y.t else x.t)↔(bd (x.b<y.t)&&bd (y.b<x.t))=bi;simp;split<;>split<;>$_
def cf(k:Nat):Nat:=if k=0\/k=2 then 2 else 1
def lN(k:Nat):Int:=if k<2 then 1 else -1
def iA(rs:Fl)(x:Ob)(k:Nat):List (Int×eS):=(rs.filter λy=>bM k x y.2).map λy=>(co (3-cf k) y.2,y.1)
def xJ(k:Nat)(x y:Ob):Bool:=if k<2 then bd (co (cf k+2) x=co (cf k) y)else bd (co (cf k) x=co (cf k+2) y)
def Wi (a:k<4)(x y):bM k x y=(xJ k x y&&dP (3-cf k) x y):=by
 let a:k=0\/k=1\/k=2\/k=3:=⋯;let rfl||rfl||rfl||rfl:=a
 .show (bd (y.b=x.t)&&dP 1 x y)=(bd (x.t=y.b)&&dP 1 x y);rw[decide_eq_decide.2 (eq_comm )]
 .show (bd (y.l=x.r)&&dP 2 x y)=(bd (x.r=y.l)&&dP 2 x y);rw[decide_eq_decide.2 (eq_comm )]
 .show (bd (y.t=x.b)&&dP 1 x y)=(bd (x.b=y.t)&&dP 1 x y);rw[decide_eq_decide.2 (eq_comm )]
 show(bd (y.r=x.l)&&dP 2 x y)=(bd (x.l=y.r)&&dP 2 x y);rw[decide_eq_decide.2 (eq_comm )]
def Ei(fn:aS):Prop:=∀(rs:Fl) (x:eS×Ob) (k:Nat),k<4->rs.length<64->x.2.ok->(∀y∈rs,y.2.ok)->((iA rs x.2 k).map (·.1)).Nodup->fn [aw rs,ai x,.int (cf k:Int),.int<|lN k]=al (.O (.L (((cV<|iA rs x.2 k).map (·.2)).map .str)))
theorem Va (b:(l.map (·.1)).Nodup)(hz:l.length<64)(a:fa Z=al ([.L (l.map dq)],Z1)):alt (bT kP fa) (alt (bT qH fa)<|bT nz fa) Z=al (.O<|.L<|(cV l).map dq,Z1):=by
 cases l with
 |nil =>
  $(fh<|aC a ?_);let:cV []=[]:=by$$(cV);simp
  rw[this];apply(uu (l:=[]) ⋯).trans;simp[aD]
 |cons p l=>$(qd ?_<|fh<|aC a<|E8 b hz);$$(bT);rw[a];rfl
def RT(T:Txt mg)(L:ba P w K mg base "_law_meets" 1 (aF K g))(M:JI g)(F:bb K "_law_side" "_law_side" zF f o):∃fn,aV P w K mg base bc 2 f o ["_law_rows","_law_one","_law_low","_law_way"] (aF K fn)/\Ei fn:=by
 $$$(bX F Gs ρ ?N ?B)
 case N=>$("h")
 ext rs x k O hz Q R S;$$$(cE ρ ?w);let hl:cf k=1\/cf k=2:=by$$(cf);split<;>simp
 let q:∀y,cT (ai y) (.int (cf k:Int))=al (.int<|co (cf k) y.2):=λy=>pK y ∅;let r:∀y,cT (ai y) (.int<|(cf k:Int)+2)=al (.int<|co (cf k+2) y.2):=λy=>pK y (k:=cf k+2) ∅;let t:(3:Int)-(cf k:Int)=((3-cf k:Nat):Int):=∅
 let U:∀y,cT (ai y) (.int<|(3:Int)-(cf k:Int))=al (.int<|co (3-cf k) y.2):=λy=>by rw[t];$(pK y (by lia))
 let V:pR [.bl (bd<|lN k=1)]=al (.D<|.int (if k<2 then 1 else 0)):=by
  delta lN;ext(h:k<2)
  .rw[if_pos h,if_pos h];rfl
  rw[if_neg h,if_neg h];rfl
 $$$(ah<|aN (ck ak<|nT _) ρ<|aq ?_);let fs:∀j y,rs[j]?=al y->(((rs.take<|j+1).filter λy=>bM k x.2 y.2).map λy:eS×Ob=>dq (co (3-cf k) y.2,y.1))=(((rs.take j).filter λy=>bM k x.2 y.2).map λy:eS×Ob=>dq (co (3-cf k) y.2,y.1))++(if bM k x.2 y.2 then[dq (co (3-cf k) y.2,y.1)]else[]):=λj y e=>by
  rw[eC e,ac7,fv];congr 1
  ext(h:bM k x.2 y.2=bi)
  .rw[if_pos h,zb,if_pos h];rfl
  rw[if_neg h,zb,if_neg h];rfl
 $$$(ah<|dD (λj Z=>∃b a,Fr b/\Fr a/\Z=[.D (aw rs),.D<|ai x,.D<|.int<|cf k,.D<|.int<|lN k,.O<|.L (((rs.take j).filter λy=>bM k x.2 y.2).map λy:eS×Ob=>dq (co (3-cf k) y.2,y.1)),b,a]) (bP ρ) ⟨_,_,ι ρ,ι ρ,ρ⟩ ?st ?C)
 case st =>
  ext j d hd _ ⟨b,a,u,v,rfl⟩;rw[dk]at hd;let(y,D,rfl):=ft.1 hd;let W:=eH D;rw[fs j y D];let i:(((rs.take j).filter λy=>bM k x.2 y.2).map λy:eS×Ob=>dq (co (3-cf k) y.2,y.1)).length<sizeLine:=by rw[a8];$(xr (px _ _) ?_);rw[iW];delta c6;$_
  generalize (((rs.take j).filter λy=>bM k x.2 y.2).map λy:eS×Ob=>dq (co (3-cf k) y.2,y.1))=c at *;$({[.D (aw rs),.D<|ai x,.D<|.int<|cf k,.D<|.int<|lN k,.O<|.L c,.D<|ai y,a],by let rfl||(d,rfl):=u<;>rfl,?_});let pick:cT (.L [.bl (bd<|co (cf k) x.2=co (cf k+2) y.2),.bl<|bd<|co (cf k+2) x.2=co (cf k) y.2]) (.int (if k<2 then 1 else 0))=al (.bl<|xJ k x.2 y.2):=by
   delta xJ;ext(h:k<2)
   .rw[if_pos h,if_pos h];rfl
   rw[if_neg h,if_neg h];rfl
  let l:=Wi O x.2 y.2;let G:=M x y (3-cf k) (by lia) Q<|R y W;rw[<-t]at G;let I:2<=sizeLine:=∅
  $$$(ah<|aN (v_res<|ki (ag (ck (aa (ag (ay (aY ρ ρ ρ<|q x) (aY ρ (ag (ay ρ ρ ρ) ρ) ρ<|r y)<|eq_int _ _) ρ)<|aa (ag (ay (aY ρ (ag (ay ρ ρ ρ) ρ) ρ<|r x) (aY ρ ρ ρ<|q y)<|eq_int _ _) ρ) ak) I) ρ) (ag (aC (aa (ag (ay ρ ρ<|eq_int _ _) ρ) ak) V) ρ) pick) ?X<|aq ?Y)
  case X=>let rfl||(d,rfl):=v<;>rfl
  generalize xJ k x.2 y.2=m at *;let no:bM k x.2 y.2=bn->∃b a,Fr b/\Fr a/\[.D (aw rs),.D<|ai x,.D<|.int<|cf k,.D<|.int<|lN k,.O<|.L c,.D<|ai y,.D<|.bl m]=[.D (aw rs),.D<|ai x,.D<|.int<|cf k,.D<|.int<|lN k,.O<|.L<|c++if bM k x.2 y.2=bi then[dq (co (3-cf k) y.2,y.1)]else[],b,a]:=λh=>{_,_,τ {_,ρ},τ {_,ρ},by rw[h,if_neg ⋯,nS]};$$$(ah<|eI (fw ρ ρ) (λh=>?_)<|λh=>aP<|aq<|aP<|no (by rw[l,h];rfl));$$$(ah<|eI (fw (ag (aC (aa ρ<|aa ρ<|aa (ag (ay ρ ρ ρ) ρ) ak) G) ρ) ρ) (λn=>?_)<|λn=>aP<|aq<|aP<|aq<|aP<|no (by rw[l,h,n];rfl));let e:bM k x.2 y.2=bi:=by rw[l,h,n];rfl
  $$$(ah<|gn (gZ ρ (aa (dW (aa (aY ρ (ag (ay ρ ρ ρ) ρ) ρ<|U y)<|aa (aY ρ ρ ρ ρ) ak) I) ak) i)<|aq<|aP<|aq<|aP<|aq<|aP ⟨.D<|ai y,.D<|.bl m,τ ⟨ai y,ρ⟩,τ ⟨.bl m,ρ⟩,?_⟩);rw[if_pos e];rfl
 ext _ ⟨b,a,u,v,rfl⟩;rw[a8,lq];let ep:((rs.filter λy=>bM k x.2 y.2).map λy:eS×Ob=>dq (co (3-cf k) y.2,y.1))=(iA rs x.2 k).map dq:=by$$(iA);rw[eX];rfl
 let J:(iA rs x.2 k).length<64:=by delta iA;rw[a8];$(xr (px _ _) hz)
 rw[ep];let e2:=Va (fa:=gz (eY 4) js) (Z:=[.D (aw rs),.D<|ai x,.D<|.int<|cf k,.D<|.int<|lN k,.O<|.L<|(iA rs x.2 k).map dq,b,a]) S J<|aa ρ ak;$$$(aq<|ah<|bY (cX (λp=>[.no,.D<|.int p.1,.D<|.str p.2]) (λp=>.str p.2) (bP<|ag e2 ρ) ρ ?b3 ?b4 (λ_ _=>rfl)<|λ_ _=>rfl)<|eB ?b9)
 case b3=>rw[pF];$$(c6);$_
 case b4=>ext y _ Z (rfl|⟨z,rfl⟩)<;>rfl
 rw[eX];$({_,ρ})
def bZ(rs:Fl)(x:Ob)(k:Nat):List Str:=if(cV<|iA rs x k).map (·.2)=[]then[az k]else(cV<|iA rs x k).map (·.2)
theorem uZ (h:f Z=al (.L<|l.map .str,Z1))(b:g Z1=al (.L [.str x],Z1)):qf f g Z=al (.L<|(if l=[]then[x]else l).map .str,Z1):=by
 delta qf;rw[h];cases l with
 |nil=>$b
 |cons a l=>rfl
def Az (h:f Z=al (.L ds,Z1))(a:g Z1=al (.int<|-1,Z2)):xt f g Z=al (.O<|.L ds.reverse,Z2):=by delta xt;rw[h];show(g Z1).bind _=_;rw[a];rfl
def xN(a b:List eS)(h1:a.length<=1000)(h2:b.length<=1000):gN (.L<|a.map .str) (.L<|b.map .str)=al (.O<|.L<|(a++b).map .str):=by rw[fv];$(if_pos (by rw[a8,a8];$$(c6);$_))
def XU (x)(k)(h:rs.length<64):(bZ rs x k).length<=100:=by
 delta bZ;split
 .simp
 rw[a8,pF];delta iA;rw[a8];$(n5 (px _ _) (by lia))
def Fz(fn:aS):Prop:=∀(rs:Fl) (x:eS×Ob),rs.length<64->x.2.ok->(∀y∈rs,y.2.ok)->(∀k,k<4->((iA rs x.2 k).map (·.1)).Nodup)->fn [aw rs,ai x]=al (.O<|.L<|(bZ rs x.2 0++(bZ rs x.2 1).reverse++(bZ rs x.2 2).reverse++bZ rs x.2 3).map .str)
def Ww(T:Txt mg)(i:ba P w K mg base "_law_side" 2 (aF K b))(j:Ei b)(F:bb K "_law_neighbours" "_law_neighbours" AU f c):∃fn,aV P w K mg base bc 3 f c ["_law_rows","_law_one"] (aF K fn)/\Fz fn:=by
 $$$(bX F Hs ρ ?I ?G)
 case I=>$("h")
 ext rs x hz m o p;$$$(cE ρ ?w);let e:=λk d=>j rs x k d hz m o<|p k d;let l:=λk=>XU (rs:=rs) x.2 k hz;let a:1<=sizeLine:=by simp[c6]
 $$$(ah<|aN (v_res<|uZ (ag (aC ρ<|e 0 ⋯) ρ)<|ag (ck (aa ρ ak) a) ρ) ρ<|aq ?_);$$$(ah<|aN (v_res<|uZ (ag (aC (by rfl)<|e 1 ⋯) ρ)<|ag (ck (aa ρ ak) a) ρ) ρ<|aq ?_);$$$(ah<|aN (Z2:=[.D (aw rs),.D<|ai x,.D<|.L<|(bZ rs x.2 0).map .str,.D<|.L<|(bZ rs x.2 1).map .str,.D<|.L<|(bZ rs x.2 2).map .str,.no]) (v_res<|uZ (ag (aC (by rfl)<|e 2 ⋯) ρ)<|ag (ck (aa ρ ak) a) ρ) ρ<|aq ?_);$$$(ah<|aN (Z2:=[.D (aw rs),.D<|ai x,.D<|.L<|(bZ rs x.2 0).map .str,.D<|.L<|(bZ rs x.2 1).map .str,.D<|.L<|(bZ rs x.2 2).map .str,.D<|.L<|(bZ rs x.2 3).map .str]) (v_res<|uZ (ag (aC (by rfl)<|e 3 ⋯) ρ)<|ag (ck (aa ρ ak) a) ρ) ρ<|aq ?_);let l0:=l 0;let l1:=l 1;let l2:=l 2;let l3:=l 3;generalize bZ rs x.2 0=A at *;generalize bZ rs x.2 1=B at *;generalize bZ rs x.2 2=C at *;generalize bZ rs x.2 3=D at *;let g:=xN A B.reverse ∅ (by rw[z3];$_);let h:=xN (A++B.reverse) C.reverse (by rw[eR,z3];$_) (by rw[z3];$_);let q:=xN (A++B.reverse++C.reverse) D (by rw[eR,eR,z3,z3];$_) ∅;rw[aaQ]at g h;$(ah<|bY (ay (ag (ay (ag (ay ρ (ag (Az ρ ρ) ρ) g) ρ) (ag (Az ρ ρ) ρ) h) ρ) ρ q)<|eB ⟨_,ρ⟩)
def JK(fn:aS):Prop:=∀(rs:Fl),rs.length<64->(∀y∈rs,y.2.ok)->(∀x∈rs,∀k,k<4->((iA rs x.2 k).map (·.1)).Nodup)->fn [aw rs]=al (.O<|.L<|(rs.map λx=>(x.1,bZ rs x.2 0++(bZ rs x.2 1).reverse++(bZ rs x.2 2).reverse++bZ rs x.2 3)).map pairD)
def LD(T:Txt mg)(e:ba P w K mg base "_law_neighbours" 3 (aF K a))(g:Fz a)(F:bb K "_law_web" "_law_web" Ck f b):∃fn,aV P w K mg base bc 4 f b ["_law_rows"] (aF K fn)/\JK fn:=by
 $$$(bX F JC ρ ?C ?B)
 case C=>$("h")
 ext rs hz c h;$$$(cE ρ ?w);let sz:rs.length<=sizeLine:=by$$(c6);lia
 let i:2<=sizeLine:=∅
 $$$(ah<|bY (cX (λy=>[.no,.D<|ai y,.D<|aw rs]) (λx=>pairD (x.1,bZ rs x.2 0++(bZ rs x.2 1).reverse++(bZ rs x.2 2).reverse++bZ rs x.2 3)) (bP ρ) ρ sz ?D (λy d=>dW (aa (aY ρ ρ ρ ρ)<|aa (ag (aC (aa ρ<|aa ρ ak)<|g rs y hz (c y d) c<|h y d) ρ) ak) i)<|λ_ _=>rfl)<|eB ?G)
 case D=>ext y _ Z (rfl|⟨z,rfl⟩)<;>rfl
 rw[eX];$({_,ρ})
def FA (hw:fX web)(bI:1<=web.length/\web.length<=8)(nm:∀p∈web,eF p.1=bi):cK web:=by$({bI,nm,hw.C.ku,λp b=>?_});let a:p.1∈web.map (·.1):=ae.2 ⟨p,b,ρ⟩;let c:=hw.C.len p.1 a;let d:=hw.C.nd p.1 a;let f:=hw.C.mem p.1 a;let g:=hw.C.gB p.1 a;rw[fE hw.C.ku b]at c d f g;$({c,d,λn h=>{f n h,λz=>g<|z ▸ h}})
def tf(web a:bp):Prop:=(a.map (·.1)).Perm (web.map (·.1))/\∀z∈a,∃p∈web,p.1=z.1/\i7 p.2 z.2
theorem tf.ok{web a:bp}(t:tf web a)(h:cK web)(hw:fX web):cK a/\fX a:=by
 let nd:=t.1.nodup_iff.2 h.nd;let c:fX a:=qO.turn hw t.1 λx d=>by let(z,hz,rfl):=ae.1<|t.1.mem_iff.2 d;let(p,b,e,f):=t.2 z hz;rwa[fE nd hz,<-e,fE h.nd b]
 let hl:=t.1.length_eq;rw[a8,a8]at hl;let bI:=h.bI;$({FA c (by lia) λz hz=>?_,c});let(p,b,e,_):=t.2 z hz;rw[<-e];$(h.nm p b)
def C0(L:Fl)(g:Ob->Int):(cV (L.map λy=>(g y.2,y.1))).map (·.2)=(L.mergeSort λa b=>bd<|g a.2<=g b.2).map (·.1):=by delta cV;rw[<-aan (f:=λy:eS×Ob=>(g y.2,y.1)) (λa _ b _=>rfl),eX];rfl
def UX{L:Fl}{g:Ob->Int}(nd:(L.map λy=>g y.2).Nodup):(L.mergeSort λa b=>bd<|-g a.2 <= -g b.2)=(L.mergeSort λa b=>bd<|g a.2<=g b.2).reverse:=by
 let i:=gk L λa b=>bd<|-g a.2 <= -g b.2;let j:=gk L λa b=>bd<|g a.2<=g b.2;let m:=ub (le:=λa b:eS×Ob=>bd<|-g a.2 <= -g b.2) (λa b c d f=>by simp at *;$_) (λa b=>by simp;$_) L;let n:=ub (le:=λa b:eS×Ob=>bd<|g a.2<=g b.2) (λa b c d f=>by simp at *;$_) (λa b=>by simp;$_) L;$(oZ (R:=λa b=>g b.2<=g a.2/\a∈L/\b∈L) (λa b d f=>?_) (i.trans<|j.symm.trans (adm _).symm) ?_ ?_)
 .let e||e||e:=jQ (gd.1 nd) d.2.1 d.2.2
  .$e
  .$(absurd (ad9 f.1 d.1) e)
  $(absurd (ad9 d.1 f.1) e)
 .$(m.imp_of_mem λ{a b} k l h=>{?_,i.mem_iff.1 k,i.mem_iff.1 l});lia
 rw[aeO];$(n.imp_of_mem λ{a b} k l h=>{of_decide_eq_true h,j.mem_iff.1 l,j.mem_iff.1 k})
def Jt (d:k<4)(f:u5 rs x):((iA rs x k).map (·.1)).Nodup/\(if k=0\/k=3 then bZ rs x k else(bZ rs x k).reverse)=cb rs x k:=by
 let nd:=f k d;unfold gE at nd;rw[eX]at nd;delta bZ cb iA gE;generalize (rs.filter λy=>bM k x y.2)=L at *;let em:∀g:Ob->Int,(cV (L.map λy=>(g y.2,y.1))).map (·.2)=[]↔(L.map λy:eS×Ob=>(cO k y.2,y.1))=[]:=λg=>by rw[tz,tz,<-aac,pF,a8,aac]
 let d:k=0\/k=3\/k=1\/k=2:=∅
 let ad3:∀{g:Ob->Int},(∀y,cO k y=g y)->((L.map λy=>(g y.2,y.1)).map (·.1)).Nodup/\(if(cV (L.map λy=>(g y.2,y.1))).map (·.2)=[]then[az k]else(cV (L.map λy=>(g y.2,y.1))).map (·.2))=(if(L.map λy:eS×Ob=>(cO k y.2,y.1))=[]then[az k]else(cV (L.map λy:eS×Ob=>(cO k y.2,y.1))).map (·.2)):=λ{g} e=>by simp!
 let back:∀{g:Ob->Int},(∀y,cO k y=-g y)->((L.map λy=>(g y.2,y.1)).map (·.1)).Nodup/\(if(cV (L.map λy=>(g y.2,y.1))).map (·.2)=[]then[az k]else(cV (L.map λy=>(g y.2,y.1))).map (·.2)).reverse=(if(L.map λy:eS×Ob=>(cO k y.2,y.1))=[]then[az k]else(cV (L.map λy:eS×Ob=>(cO k y.2,y.1))).map (·.2)):=λ{g} e=>by let e:cO k=λy=>-g y:=funext e;let c:(L.map λy=>g y.2).Nodup:=gd.2 ((gd.1 nd).imp λ{a b} h z=>by simp!);$({by rw[eX];$c,?_});ext(h:L=[]);simp!;rw[if_neg (λz=>h (by$$$$((em _).1 z))),if_neg (by$$$$h),C0,C0,e,UX c,aaQ]
 let rfl||rfl||rfl||rfl:=d
 .$(ad3 λy=>rfl)
 .$(ad3 λy=>rfl)
 .$(back λy=>rfl)
 $(back λy=>rfl)
def MQ (a:u5 rs x):bZ rs x 0++(bZ rs x 1).reverse++(bZ rs x 2).reverse++bZ rs x 3=dH rs x 4:=by let h:=λk b=>(Jt (k:=k) b a).2;rw[B0,<-h 0 ⋯,<-h 1 ⋯,<-h 2 ⋯,<-h 3 ⋯];rfl
def mw(rs:Fl):bp:=rs.map λy=>(y.1,dH rs y.2 4)
def Drawn.web (d:Drawn rs):cK (mw rs)/\fX (mw rs):=by
 let hw:=d.fl.AI d.mt<|List.Perm.refl _;let b:cK (rs.map λy=>(y.1,nU<|dH rs y.2 4)):=FA hw {by rw[a8];$(pB.2 d.fl.ne),by rw[a8];$d.fl.bI} λz hz=>by let(y,a,rfl):=ae.1 hz;$(d.fl.nm y a)
 $(tf.ok {by$$(mw);rw[eX,eX];$(List.Perm.refl _),λz hz=>?_} b hw);let(y,a,rfl):=ae.1 hz;$({_,ae.2 ⟨y,a,ρ⟩,ρ,(Hq _).symm})
def Fh(fn:fq):Prop:=∀p (web:bp),1<=web.length->web.length<=8->(∀z∈web,0<z.2.length/\z.2.length<=1000)->∃r a,fn (pD p) [.L (web.map pairD)]=al (r,a)/\∃(b:bp) (c:Int×Int),r=.O (.L<|b.map pairD)/\a=pD c/\tf web b
def Xv(T:Txt mg)(J:ba P w K mg base "_law_draw" 1 (fR K 0 l))(t:qR l)(F:bb K "_law_turned_web" "_law_turned_web" zN f u):∃fn,aV P w K mg base bc 2 f u ["_law_purse_here","_law_web_here"] (fR K 0 fn)/\Fh fn:=by
 $$$(r8 F Eo ρ ?M ?B)
 case M=>ext cdv A outer s H E v;$$$T;let lk:oU "_law_purse_here":=⟨trivial⟩;$("S")
 ext p web h1 h8 v;$$$(wj ρ ?w);let N:eQ (.L<|web.map pairD)=al web.length:=by simp[eQ]
 let(v0,x,O,a0,b0):=t p (m:=(web.length:Int)) ∅ ∅;let(a,rfl):=aag a0;$$$(ah<|aN (ff ρ (aa (iX ρ N) ak) ρ O ρ) ρ<|aq ?_);$$$(ah<|aN (ck ak<|nT _) ρ<|aq ?_);let C:fQ (.L<|web.map pairD) (al (a:Int)) am=al (.O<|.L<|(web.drop a).map pairD):=by show al (Res.O<|.L<|cutD (web.map pairD) (al (a:Int)) am)=_;rw[qm,aax]
 let D:fQ (.L<|web.map pairD) am (al (a:Int))=al (.O<|.L<|(web.take a).map pairD):=by show al (Res.O<|.L<|cutD (web.map pairD) am<|al (a:Int))=_;rw[sX,aby]
 let ad:gN (.L<|(web.drop a).map pairD) (.L<|(web.take a).map pairD)=al (.O<|.L<|(web.drop a++web.take a).map pairD):=by rw[fv];$(if_pos (by rw[a8,a8,tm,iW];$$(c6);$_))
 let pm:(web.drop a++web.take a).Perm web:=by$(List.perm_append_comm.trans ?_);rw[R']
 generalize hL:web.drop a++web.take a=L at *;let ll:=pm.length_eq;$$$(ah (dD (λk Z=>∃(q:Int×Int) (b:bp) (i j e:Slot),Z=[.io (pD q),.D<|.L<|web.map pairD,.D<|.int a,.O<|.L<|b.map pairD,i,j,e]/\Fr i/\Fr j/\Fr e/\b.map (·.1)=(L.take k).map (·.1)/\∀z∈b,∃p∈web,p.1=z.1/\i7 p.2 z.2) (bP<|ag (ay (ag (la ρ ρ C) ρ) (ag (uX ρ ρ D) ρ) ad) ρ) {x,[],_,_,_,ρ,ι ρ,ι ρ,ι ρ,ρ,λz hz=>by$$$hz} ?st ?G))
 case G=>ext _ ⟨q,b,i,j,e,rfl,_,_,_,g,hz⟩;rw[a8,lq]at g;$(aq<|ah<|bY ρ<|eB ⟨_,_,_,ρ,ρ,b,q,ρ,ρ,by rw[g];$(pm.map _),hz⟩)
 ext k d hd _ ⟨q,b,i,j,e,rfl,Q,R,S,g,hz⟩;rw[dk]at hd;let(z,o,rfl):=ft.1 hd;let n:=pm.mem_iff.1<|eH o;let hk:=(cn.1 o).1;let(z1,z2):=v z n;$({[.io (pD q),.D<|.L<|web.map pairD,.D<|.int a,.O<|.L<|b.map pairD,.D<|.str z.1,.D<|.L<|z.2.map .str,e],by let rfl||(d,rfl):=Q<;>let rfl||(d,rfl):=R<;>rfl,?_});let U:eQ (.L<|z.2.map .str)=al z.2.length:=by simp[eQ]
 let(v1,V,W,X,I):=t q (m:=(z.2.length:Int)) ∅ ∅;let(c,rfl):=aag X;$$$(ah<|aN (ff ρ (aa (iX ρ U) ak) ρ W ρ) ?I<|aq ?Y)
 case I=>let rfl||(d,rfl):=S<;>rfl
 let r1:fQ (.L<|z.2.map .str) (al (c:Int)) am=al (.O<|.L<|(z.2.drop c).map .str):=by show al (Res.O<|.L<|cutD (z.2.map Dat.str) (al (c:Int)) am)=_;rw[qm,aax]
 let r2:fQ (.L<|z.2.map .str) am (al (c:Int))=al (.O<|.L<|(z.2.take c).map .str):=by show al (Res.O<|.L<|cutD (z.2.map Dat.str) am<|al (c:Int))=_;rw[sX,aby]
 let r3:=xN (z.2.drop c) (z.2.take c) (by rw[tm];$_) (by rw[iW];$_);let lw:b.length=k:=by let:=congrArg List.length g;rw[a8,a8,iW]at this;lia
 let r:(b.map pairD).length<sizeLine:=by rw[a8];delta c6;lia
 let s2:2<=sizeLine:=∅
 $$$(ah<|gn (gZ (d:=pairD (z.1,z.2.drop c++z.2.take c)) ρ (aa (dW (aa ρ<|aa (ag (ay (ag (la ρ ρ r1) ρ) (ag (uX ρ ρ r2) ρ) r3) ρ) ak) s2) ak) r)<|aq<|aP ⟨V,b++[(z.1,z.2.drop c++z.2.take c)],.D<|.str z.1,.D<|.L<|z.2.map .str,.D<|.int c,?_,τ ⟨.str z.1,ρ⟩,τ ⟨.L<|z.2.map .str,ρ⟩,τ ⟨.int c,ρ⟩,?_,?_⟩)
 .rw[fv];rfl
 .rw[fv,eC o,fv,g];rfl
 ext y h;let h||h:=eK.1 h
 .$(hz y h)
 rw[kn.1 h];$({z,n,ρ,z.2.take c,z.2.drop c,(R' c z.2).symm,ρ})
end
local macro_rules | `(tactic| walk_at "0")=>Mq.fs "DE.alt&xK rrarA&Yx rarA"
local macro_rules | `(tactic| walk_at "0")=>Mq.fs "DE.alt&AL rrrarA&Bj rrarA&xK rrarA|Mp rarA"
local macro_rules | `(tactic| walk_at "0")=>Mq.fs "Q2 arrrarA"
local macro_rules | `(tactic| walk_at "0")=>Mq.fs "Sx arrarA"
section
variable{P:hZ}{w:nL}{K:f'}{mg:eS->Option cm}{base:nk}
theorem wC:∀a b:List eS,gG (a.map Dat.str) (b.map Dat.str)=bd (a=b)
 |[],[]=>rfl
 |[],_::_=>by simp[gG]
 |_::_,[]=>by simp[gG]
 |x::a,y::b=>by show(dm (.str x) (.str y)&&gG (a.map Dat.str) (b.map Dat.str))=_;rw[my,wC a b,ph];simp
def zk{a b:List eS}(c:∀x∈a,bj x)(d:∀x∈b,bj x):dN true (.L<|a.map .str) (.L<|b.map .str)=al (.D<|.bl<|!bd (a=b)):=by rw[rB (pL c) (pL d),mM,wC]
def Po{a b:List eS}(c:∀x∈a,bj x)(d:∀x∈b,bj x):dN false (.L<|a.map .str) (.L<|b.map .str)=al (.D<|.bl<|bd<|a=b):=by rw[v_eq (pL c) (pL d),mM,wC]
def kM:x∈aD l↔x∈l:=(gk l dh).mem_iff
def v_allB{a:Type}{enc:a->Dat}{caps:List (Option Nat)}{fi:IF}{g:GF}{fe:DF}{xs:List a}{Z Z1 Z2:DS}(put:a->DS)(B:a->Bool)(b:fi Z=al (xs.map enc,Z1))(c:bA am caps Z1=Z2)(hz:xs.length<=c6)
 (d:∀x∈xs,∀Z,(Z=cz caps Z2\/∃y,Z=put y)->g (enc x) Z=al (put x))(e:∀x∈xs,fe (put x)=al (.bl<|B x,put x))(f:∀x∈xs,noOwn (put x)=bi) :
  bT n8 (gz (ic<|fD caps am fi g (λZ=>al (true,Z)) fe) js) Z=al (.D<|.bl<|xs.all B,Z2) :=
 aC (aa (ag (cX put (λx=>.bl<|B x) b c hz d e f) ρ) ak) (Cp B xs)
def wk (e:a.map (·.1)=l)(h:a.length<64):sf [.cN a]=al (.O<|.L<|(aD l).map .str):=by rw[<-e];$(if_pos h)
def De (h:l.length<64):vP [.L (l.map .str)]=al (.O<|.L<|(aD l).map .str):=by let:=oh (λx:eS=>x) l;rw[abT]at this;show(dS<|l.map .str).bind _=_;rw[this];$(if_pos h)
def ju(rs:Fl):bp:=rs.map λx=>(x.1,gw rs x)
def eG(web:bp)(rs:Fl):Bool:=kc rs&&bd (aD (web.map (·.1))=aD (rs.map (·.1)))&&web.all λp=>bd<|aD p.2=aD (dX (ju rs) p.1)
def IC(fn:aS):Prop:=∀(web:bp) (rs:Fl),cK web->fX web->gX rs->fn [.L (web.map pairD),aw rs]=al (.D<|.bl<|eG web rs)
def Qo(T:Txt mg)(O:ba P w K mg base "must_web" 4 (aF K o))(Q:Gk o)(R:ba P w K mg base "is_any_floor" 3 (aF K q))(S:IS q)(U:ba P w K mg base "all_touching" 4 (aF K t))(V:BH t)(X:ba P w K mg base "names_of" 1 (aF K u))(Y:Ih u)(F:bb K "is_floor" "is_floor" Cj f v):∃fn,aV P w K mg base bc 5 f v ["web","rows"] (aF K fn)/\IC fn:=by
 $$$(bX F GN (n:=2) ρ ?hb ?D)
 case hb=>ext cdv A outer s H E I;let nd:=GN.nd;$$$T;let hl:sv "rings":=⟨trivial⟩;let fz:jF "rings":=⟨trivial⟩;let fz2:jF "touched":=⟨trivial⟩;let so1:Cz "rings":=⟨trivial⟩;let so2:Cz "touched":=⟨trivial⟩;let hl2:sv "touched":=⟨trivial⟩;$("S")
 clear T F O R U X;ext web rs h hw ok;let G:=Q web h hw;let B:=S rs ok;let bI:=h.bI;$$$(cE ρ ?w);show WS _ [.D (.L<|web.map pairD),.D<|aw rs,.no,.no] _;$$$(ah<|gn (ag (aC (aa ρ ak) G) ρ)<|aq ?_);ext(e:kc rs=bi)
 case neg=>simp?[zd]at e;$(C2 (i9<|fw (ag (aC (aa ρ ak) B) ρ) ρ) (by rw[e];rfl) ρ<|gK ?_);$$(eG);rw[e];rfl
 $(dY (i9<|fw (ag (aC (aa ρ ak) B) ρ) ρ) (by rw[e];rfl) ?_);let fl:=((uM rs).1 e).Fx;let C:=V rs fl.ne ok.bI fl.nd fl.th;obtain⟨W,l⟩:∃W,W=rs++dc rs:={_,ρ};rw[<-l]at C;$$$(ah<|aN (r:=.D<|bq web) (Z1:=[.D (.L<|web.map pairD),.D<|aw rs,.no,.no]) (Z2:=[.D (.L<|web.map pairD),.D<|aw rs,.D<|bq web,.no]) ?a ρ<|aq ?b)
 case a=>$$(nF);rw[aC (aa ρ ak) (Ir h.nd)];rfl
 $$$(ah<|aN (r:=.D<|.cN<|cD rs W) (Z1:=[.D (.L<|web.map pairD),.D<|aw rs,.D<|bq web,.no]) (Z2:=[.D (.L<|web.map pairD),.D<|aw rs,.D<|bq web,.D<|.cN<|cD rs W]) ?c ρ<|aq ?d)
 case c=>$$(nF);rw[aC (aa ρ ak) C];rfl
 let k1:(dg web).map (·.1)=web.map (·.1):=by$$(dg);rw[eX];rfl
 let k2:(cD rs W).map (·.1)=rs.map (·.1):=by$$(cD);rw[eX];rfl
 let J:(dg web).length<64:=by$$(dg);rw[a8];$_
 let L:(cD rs W).length<64:=by$$(cD);rw[a8];let:=fl.bI;$_
 let M:∀x∈aD (web.map (·.1)),bj x:=λx g=>h.txt<|ι<|kM.1 g;let tr:∀x∈aD (rs.map (·.1)),bj x:=λx g=>by let(y,i,rfl):=ae.1<|kM.1 g;$(ok.tx y i)
 ext(j:aD (web.map (·.1))=aD (rs.map (·.1)))
 case neg=>$(C2 (bL<|ay (ag (aC (aa ρ ak)<|wk k1 J) ρ) (ag (aC (aa ρ ak)<|wk k2 L) ρ)<|zk M tr) (by rw[decide_eq_false j];rfl) ρ<|gK ?_);$$(eG);rw[decide_eq_false j,aad,aeg]
 $(dY (bL<|ay (ag (aC (aa ρ ak)<|wk k1 J) ρ) (ag (aC (aa ρ ak)<|wk k2 L) ρ)<|zk M tr) (by rw[decide_eq_true j];rfl) ?_);show WS _ [.D (.L<|web.map pairD),.D<|aw rs,.D<|bq web,.D<|.cN<|cD rs W] _;$$$(ah<|bY (v_allB (enc:=λp:eS×List eS=>Dat.str p.1) (xs:=web) (λp=>[.no,.D<|.str p.1,.D<|bq web,.D<|.cN<|cD rs W]) (λp=>bd<|aD p.2=aD (dX (ju rs) p.1)) ?G ρ ?B ?C ?e4<|λ_ _=>rfl)<|eB<|gK ?e5)
 case G=>show al ((dg web).map (λk=>Dat.str k.1),_)=_;$$(dg);rw[eX];rfl
 case B=>$$(c6);lia
 case C=>ext y _ Z (rfl|⟨z,rfl⟩)<;>rfl
 case e5=>$$(eG);simp?[e,decide_eq_true j];rfl
 ext p m;let I:p.1∈rs.map (·.1):=kM.1<|j ▸ kM.2 (ae.2 ⟨p,m,ρ⟩);let(x,g,ex):=ae.1 I;let hl:=h.len m;let el:(cP x.2 W 4).length<=48:=by
  let:=xf x.2 W 4;let h4:W.length=rs.length+4:=by simp?[l,eR];rfl
  let:=fl.bI;lia
 let eg:df (cD rs W) p.1=al (.L<|(cP x.2 W 4).map jc):=by rw[<-ex];$(Ee fl.nd g)
 let N:=Y (cP x.2 W 4) (by lia);let er:(cP x.2 W 4).map (λx=>Dat.str x.2)=(gw rs x).map .str:=by$$(gw);rw[eX,<-l];rfl
 rw[er]at N;let eN:dX (ju rs) p.1=gw rs x:=by rw[<-ex];$(fE (p:=(x.1,gw rs x)) (by$$(ju);rw[eX];$fl.nd)<|ae.2 ⟨x,g,ρ⟩)
 rw[eN];let lr:(gw rs x).length<64:=by$$(gw);rw[a8,<-l];lia
 $(ag (ay (ag (aC (aa (kX ρ ρ<|mI h.nd m) ak)<|De (by lia)) ρ) (ag (aC (aa (ag (aC (aa (kX ρ ρ eg) ak) N) ρ) ak)<|De lr) ρ) (Po (λy i=>h.txt ((h.rg p m).2.2 y (kM.1 i)).1) λy i=>Dy ok y<|kM.1 i)) ρ)
def gQ(k:Nat)(x y:Ob):Bool:=bd<|(if co k y>co k x then co k y else co k x)<(if co (k+2) y<co (k+2) x then co (k+2) y else co (k+2) x)
def tK(fn:aS):Prop:=∀(x y:eS×Ob) (k:Nat),k=1\/k=2->fn [ai x,ai y,.int (k:Int)]=al (.D<|.bl<|gQ k x.2 y.2)
theorem tK.ok{fn:aS}(h:tK fn):JI fn:=λx y k a b c=>by rw[h x y k a];delta gQ;rw[sJ a b c]
def Oo(T:Txt mg)(F:bb K "_law_meets" "_law_meets" Cg f a):∃fn,aV P w K mg base bc 1 f a ["_law_one","_law_other","_law_low"] (aF K fn)/\tK fn:=by
 $$$(bX F C5 (n:=3) ρ ?C ?B)
 case C=>let nd:=C5.nd;$("h")
 clear T F;ext x y k hk;let b:∀y,cT (ai y) (.int (k:Int))=al (.int<|co k y.2):=λy=>pK y (by lia);let c:∀y,cT (ai y) (.int<|(k:Int)+2)=al (.int<|co (k+2) y.2):=λy=>pK y (k:=k+2) (by lia);$$$(cE ρ ?w);show WS _ [.D (ai x),.D<|ai y,.D<|.int k] _;$(ah<|bY (ay (r:=.D<|.bl<|gQ k x.2 y.2) (ag (aC (aa (aY ρ ρ ρ<|b x)<|aa (aY ρ ρ ρ<|b y) ak) ρ) ρ) (ag (aC (aa (aY ρ (ag (ay ρ ρ ρ) ρ) ρ<|c x)<|aa (aY ρ (ag (ay ρ ρ ρ) ρ) ρ<|c y) ak) ρ) ρ) ρ)<|eB ⟨_,ρ⟩)
def dO(rs:Fl)(x:Ob):List (Int×Int×eS):=[(x.t,bH rs,"north"),(x.r,bB rs,"east"),(x.b,0,"south"),(x.l,0,"west")]
def jk(x y:Ob):Bool:=(bd (x.t=y.b)&&gQ 1 x y)||(bd (x.r=y.l)&&gQ 2 x y)
def d9(rs:Fl)(x:eS×Ob)(l:List (Int×Int×eS)):List (List eS):=(l.filter λs=>bd<|s.1=s.2.1).map λs=>aD [x.1,s.2.2]
def fN(x:eS×Ob)(l:Fl):List (List eS):=(l.filter λy=>jk x.2 y.2).map λy=>aD [x.1,y.1]
def dJ(rs l:Fl):List (List eS):=l.flatMap λx=>d9 rs x (dO rs x.2)++fN x rs
def zO(fn:aS):Prop:=∀rs:Fl,rs≠[]->rs.length<=50->(∀x∈rs,bj x.1)->(dJ rs rs).Nodup->(dJ rs rs).length<64->fn [aw rs]=al (.O<|.L<|(cM<|dJ rs rs).map tupS)
def HK (c:f Z=al (.str a,Z))(d:g Z=al (.str b,Z)):bT pZ (gz (ic<|alt (bT kP<|gz (ic<|uN<|gz f<|gz g js) js) h) js) Z=al (.D<|tupS<|aD [a,b],Z) :=
 aC (aa (ag (fh<|aC (aa (ag (ck (aa c<|aa d ak) (by simp[c6])) ρ) ak) ρ) ρ) ak) rfl
def Ow{rs:Fl}{x:eS×Ob}{l:List (Int×Int×eS)}{j:Nat}{s:Int×Int×eS}(h:l[j]?=al s):d9 rs x (l.take<|j+1)=d9 rs x (l.take j)++if s.1=s.2.1 then[aD [x.1,s.2.2]]else[]:=by
 delta d9;rw[eC h,ac7,fv];congr 1
 ext(e:s.1=s.2.1)
 .rw[if_pos e,zb,if_pos<|decide_eq_true e];rfl
 rw[if_neg e,zb,if_neg (by$$$$e)];rfl
def Uu{x:eS×Ob}{l:Fl}{j:Nat}{y:eS×Ob}(h:l[j]?=al y):fN x (l.take<|j+1)=fN x (l.take j)++if jk x.2 y.2=bi then[aD [x.1,y.1]]else[]:=by
 delta fN;rw[eC h,ac7,fv];congr 1
 ext(e:jk x.2 y.2=bi)
 .rw[if_pos e,zb,if_pos e];rfl
 rw[if_neg e,zb,if_neg e];rfl
theorem EN(rs):∀l:Fl,(dJ rs l).length<=l.length*(4+rs.length)
 |[]=>nT _
 | x::l=>by
  let e:dJ rs (x::l)=(d9 rs x (dO rs x.2)++fN x rs)++dJ rs l:=ρ;let h1:(d9 rs x<|dO rs x.2).length<=4:=by$$(d9);rw[a8];$(px _ _)
  let h2:(fN x rs).length<=rs.length:=by$$(fN);rw[a8];$(px _ _)
  let:=EN rs l;simp?[e,eR,eR,g8,abV];lia
theorem wX:∀{fs:List (List eS)},(∀f∈fs,f≠[])->kr (fs.map tupS)=al fs
 |[],_=>rfl
 | f::fs,h=>by
  let e:=oh (λx:eS=>x) f;let i:=wX λg a=>h g<|fk _ a;let hf:f.isEmpty=bn:=by simp!
  simp![kr,tupS]
def T3:∀f∈dJ rs l,f≠[]:=λf c e=>by
 $$e;let(x,_,d):=hY.1 c;let key:∀a b:eS,aD [a,b]≠[]:=λa b z=>by let:=(gk [a,b] dh).length_eq;rw[show[a,b].mergeSort dh=[]from z]at this;$$$this
 let h||h:=eK.1 d
 .let(s,_,e):=ae.1 h;$(key _ _ e)
 let(s,_,e):=ae.1 h;$(key _ _ e)
def Og(T:Txt mg)(R:ba P w K mg base "_law_meets" 1 (aF K G))(C:tK G)(F:bb K "_law_touches" "_law_touches" yW f L):∃fn,aV P w K mg base bc 2 f L ["_law_rows"] (aF K fn)/\zO fn:=by
 refine' bX F D2 (n:=1) ρ ?S ?I
 case S=>let nd:=D2.nd;let sx:B9 "_law_found":=⟨trivial⟩;$("h")
 clear T F R;ext rs ne h50 tx nd M;let sz:rs.length<=sizeLine:=by$$(c6);lia
 let U:=lO (λy:eS×Ob=>y.2.r) ne;let V:=lO (λy:eS×Ob=>y.2.t) ne;let s3:3<=sizeLine:=∅
 let s4:4<=sizeLine:=∅
 refine' cE ρ ?w;show WS _ [.D (aw rs),.no,.no,.no,.no,.no,.no,.no,.no,.no,.no] _;$$$(ah<|aN (Z2:=[.D (aw rs),.D<|.int<|bB rs,.no,.no,.no,.no,.no,.no,.no,.no,.no]) (aC (aa (ag (cX (enc:=ai) (xs:=rs) (λy=>[.no,.D<|ai y]) (λy=>.int y.2.r) (bP ρ) ρ sz ?X (λy _=>aY ρ ρ ρ ρ)<|λ_ _=>rfl) ρ) ak) U) ρ<|aq ?_)
 case X=>ext y _ Z (rfl|⟨z,rfl⟩)<;>rfl
 refine' ah<|aN (Z2:=[.D (aw rs),.D<|.int<|bB rs,.D<|.int<|bH rs,.no,.no,.no,.no,.no,.no,.no,.no]) (aC (aa (ag (cX (enc:=ai) (xs:=rs) (λy=>[.no,.D<|ai y]) (λy=>.int y.2.t) (bP ρ) ρ sz ?Y (λy _=>aY ρ ρ ρ ρ)<|λ_ _=>rfl) ρ) ak) V) ρ<|aq ?_
 case Y=>ext y _ Z (rfl|⟨z,rfl⟩)<;>rfl
 refine' ah<|aN (Z2:=[.D (aw rs),.D<|.int<|bB rs,.D<|.int<|bH rs,.O<|.L [],.no,.no,.no,.no,.no,.no,.no]) (ck ak<|nT _) ρ<|aq ?_;$$$(ah<|dD (λn Z=>∃D o c e g i a,Fr D/\Fr o/\Fr c/\Fr e/\Fr g/\Fr i/\Fr a/\Z=[.D (aw rs),.D<|.int<|bB rs,.D<|.int<|bH rs,.O<|.L<|(dJ rs<|rs.take n).map tupS,D,o,c,e,g,i,a]) (bP ρ) ⟨_,_,_,_,_,_,_,ι ρ,ι ρ,ι ρ,ι ρ,ι ρ,ι ρ,ι ρ,ρ⟩ ?st ?N)
 case N =>
  ext _ ⟨D,o,c,e,g,i,a,_,_,_,_,_,_,_,rfl⟩;rw[a8,lq];let bx:nz [.L ((dJ rs rs).map tupS)]=al (.O<|.L<|(cM<|dJ rs rs).map tupS):=by show(kr<|(dJ rs rs).map tupS).bind _=_;rw[wX T3];$(if_pos ⟨nd,M⟩)
  exact aq<|ah<|bY (aC (aa ρ ak) bx)<|eB ⟨_,ρ⟩
 ext n y k _ ⟨D,o,c,e,g,i,a,f4,f5,p,q,u,v,l,rfl⟩;rw[dk]at k;let(x,ex,rfl):=ft.1 k;let hx:=eH ex;let hn:=(cn.1 ex).1;let O:=EN rs<|rs.take n;rw[iW]at O;let et:dJ rs (rs.take<|n+1)=dJ rs (rs.take n)++(d9 rs x (dO rs x.2)++fN x rs):=by$$(dJ);simp?[eC ex,aa0];simp
 rw[et];let hA:(dJ rs<|rs.take n).length<=50*54:=n5 O<|agB (by lia) (by lia);generalize dJ rs (rs.take n)=A at *;$({[.D (aw rs),.D<|.int<|bB rs,.D<|.int<|bH rs,.O<|.L<|A.map tupS,.D<|ai x,o,c,e,g,i,a],by let rfl||(d,rfl):=f4<;>rfl,?_});$$$(ah<|aN (Z2:=[.D (aw rs),.D<|.int<|bB rs,.D<|.int<|bH rs,.O<|.L<|A.map tupS,.D<|ai x,.O<|.L ((dO rs x.2).map λs=>.U [.int s.1,.int s.2.1,.str s.2.2]),c,e,g,i,a]) ρ ?c1<|aq ?c2)
 case c1=>let rfl||(d,rfl):=f5<;>rfl
 refine' ah<|dD (λj Z=>∃c e g,Fr c/\Fr e/\Fr g/\Z=[.D (aw rs),.D<|.int<|bB rs,.D<|.int<|bH rs,.O<|.L<|(A++d9 rs x ((dO rs x.2).take j)).map tupS,.D<|ai x,.D<|.L ((dO rs x.2).map λs=>.U [.int s.1,.int s.2.1,.str s.2.2]),c,e,g,i,a]) (bP ρ) ⟨_,_,_,p,q,u,by simp?[abc,show d9 rs x []=[]from ρ,nS];rfl⟩ ?C ?f1
 case C =>
  ext j y k _ ⟨c,e,g,p,q,u,rfl⟩;rw[dk]at k;let(s,es,rfl):=ft.1 k;rw[Ow es];let hj:(d9 rs x<|(dO rs x.2).take j).length<=4:=by$$(d9);rw[a8];$(n5 (px _ _) ?_);rw[iW];$(aga _ _)
  generalize d9 rs x ((dO rs x.2).take j)=B at *;let m:((A++B).map tupS).length<sizeLine:=by rw[a8,eR];$$(c6);lia
  refine{[.D (aw rs),.D<|.int<|bB rs,.D<|.int<|bH rs,.O<|.L<|(A++B).map tupS,.D<|ai x,.D<|.L ((dO rs x.2).map λs=>.U [.int s.1,.int s.2.1,.str s.2.2]),.D<|.int s.1,.D<|.int s.2.1,.D<|.str s.2.2,i,a],by let rfl||(d,rfl):=p<;>let rfl||(d,rfl):=q<;>let rfl||(d,rfl):=u<;>rfl,?_};$(ah (eI (bL<|ay ρ ρ<|eq_int _ _) (λh=>?_) λh=>aP<|aq<|aP ⟨_,_,_,τ ⟨_,ρ⟩,τ ⟨_,ρ⟩,τ ⟨_,ρ⟩,by rw[if_neg (of_decide_eq_false h),nS]⟩));$(ah<|gn (gZ (d:=tupS<|aD [x.1,s.2.2]) ρ (aa (ag (HK (aY ρ ρ ρ ρ) ρ) ρ) ak) m)<|aq<|aP<|aq<|aP ⟨.D<|.int s.1,.D<|.int s.2.1,.D<|.str s.2.2,τ ⟨_,ρ⟩,τ ⟨_,ρ⟩,τ ⟨_,ρ⟩,?_⟩);rw[if_pos (of_decide_eq_true h),<-pw,fv (l₁:=A++B)];rfl
 ext _ ⟨c,e,g,p,q,u,rfl⟩;rw[a8,lq];let hw4:(d9 rs x<|dO rs x.2).length<=4:=by$$(d9);rw[a8];$(px _ _)
 rw[<-pw];let hW:(A++d9 rs x (dO rs x.2)).length<=3000:=by rw[eR];lia
 generalize A++d9 rs x (dO rs x.2)=W at *;generalize Dat.L ((dO rs x.2).map λs=>.U [.int s.1,.int s.2.1,.str s.2.2])=J at *;$$$(aq<|ah<|dD (λj Z=>∃i a,Fr i/\Fr a/\Z=[.D (aw rs),.D<|.int<|bB rs,.D<|.int<|bH rs,.O<|.L<|(W++fN x (rs.take j)).map tupS,.D<|ai x,.D J,c,e,g,i,a]) (bP ρ) ⟨_,_,v,l,by simp?[abc,show fN x []=[]from ρ,nS]⟩ ?s2 ?f2)
 case f2=>ext _ ⟨i,a,v,l,rfl⟩;rw[a8,lq];$(aq<|aP ⟨_,_,_,_,_,_,_,τ ⟨_,ρ⟩,τ ⟨_,ρ⟩,p,q,u,v,l,ρ⟩)
 ext j y k _ ⟨i,a,v,l,rfl⟩;rw[dk]at k;let(y,Q,rfl):=ft.1 k;let hjn:=(cn.1 Q).1;simp?[Uu Q];let hj:(fN x<|rs.take j).length<=50:=by$$(fN);rw[a8];$(n5 (px _ _) ?_);rw[iW];lia
 generalize fN x (rs.take j)=B at *;let m:((W++B).map tupS).length<sizeLine:=by rw[a8,eR];$$(c6);lia
 let m1:=C x y 1<|ι ρ;let m2:=C x y 2<|τ ρ;$({[.D (aw rs),.D<|.int<|bB rs,.D<|.int<|bH rs,.O<|.L<|(W++B).map tupS,.D<|ai x,.D J,c,e,g,.D<|ai y,a],by let rfl||(d,rfl):=v<;>rfl,?_});$$$(ah<|aN (Z2:=[.D (aw rs),.D<|.int<|bB rs,.D<|.int<|bH rs,.O<|.L<|(W++B).map tupS,.D<|ai x,.D J,c,e,g,.D<|ai y,.D<|.bl<|bd (x.2.t=y.2.b)&&gQ 1 x.2 y.2]) (v_res<|xp (ag (ay (aY ρ ρ ρ ρ) (aY ρ ρ ρ ρ)<|eq_int _ _) ρ)<|ag (aC (aa ρ<|aa ρ<|aa ρ ak) m1) ρ) ?g1<|aq ?g2)
 case g1=>let rfl||(d,rfl):=l<;>rfl
 refine ah (eI (b:=jk x.2 y.2) (tT (fw ρ ρ)<|qM (bL<|ay (aY ρ ρ ρ ρ) (aY ρ ρ ρ ρ)<|eq_int _ _)<|fw (ag (aC (aa ρ<|aa ρ<|aa ρ ak) m2) ρ) ρ) (λh=>?_) λh=>aP<|aq<|aP ⟨_,_,τ ⟨_,ρ⟩,τ ⟨_,ρ⟩,by rw[h,if_neg s9,nS]⟩);$(ah<|gn (gZ (d:=tupS<|aD [x.1,y.1]) ρ (aa (ag (HK (aY ρ ρ ρ ρ)<|aY ρ ρ ρ ρ) ρ) ak) m)<|aq<|aP<|aq<|aP ⟨.D<|ai y,.D<|.bl<|bd (x.2.t=y.2.b)&&gQ 1 x.2 y.2,τ ⟨_,ρ⟩,τ ⟨_,ρ⟩,?_⟩);rw[h,if_pos ρ,<-pw,fv (l₁:=W++B)];rfl
def D0 (h:bj x.1):bU (ai x)=bi:=Hx (by show[Dat.str x.1,.int x.2.l,.int x.2.b,.int x.2.r,.int x.2.t].all gr=bi;simp[gr,h.ok])
def Wy (a:bj x.1)(c:bj y.1):dN true (ai x) (ai y)=al (.D<|.bl<|!bd (x=y)):=by
 rw[rB (D0 a) (D0 c)];let e:dm (ai x) (ai y)=bd (x=y):=by
  show dm (.U _) (.U _)=_;show(dm (.str x.1) (.str y.1)&&(dm (.int x.2.l) (.int y.2.l)&&(dm (.int x.2.b) (.int y.2.b)&&(dm (.int x.2.r) (.int y.2.r)&&(dm (.int x.2.t) (.int y.2.t)&&true)))))=_;rw[my,jU,jU,jU,jU,ph];simp;constructor
  .ext⟨h0,d,f,g,h⟩;$(aik h0<|lU d f g h)
  ext rfl;$(⟨ρ,ρ,ρ,ρ,ρ⟩)
 rw[e]
def uV(x:Ob):Bool:=bd (0<=x.l)&&bd (0<=x.b)&&bd (x.l<x.r)&&bd (x.b<x.t)
def pN(x y:eS×Ob):Bool:=!bd (x=y)&&(gQ 1 x.2 y.2&&gQ 2 x.2 y.2)
def j3(rs:Fl)(x:eS×Ob):Bool:=uV x.2&&rs.all λy=>!pN x y
def ni(web:bp)(rs:Fl):Bool:=bd (aD (rs.map (·.1))=aD (web.map (·.1)))&&rs.all (j3 rs)&&bd (eZ rs=bB rs*bH rs)
def Bz(c d fn:aS):Prop:=∀(web:bp) (rs:Fl) (R:Bool),rs≠[]->web.length<=50->(∀p∈web,bj p.1)->gX rs->(ni web rs=bn->R=bn)->(ni web rs=bi->∃a b,c [aw rs]=al (.O<|.L a)/\d [.L (web.map pairD)]=al (.O<|.L b)/\dN false (.L a) (.L b)=al (.D<|.bl R))->fn [.L (web.map pairD),aw rs]=al (.D<|.bl R)
def VY{rs:Fl}{n:Nat}{x:eS×Ob}(h:rs[n]?=al x):eZ (rs.take<|n+1)=eZ (rs.take n)+(x.2.r-x.2.l)*(x.2.t-x.2.b):=by delta eZ;rw[eC h,fv,abG];simp[Ob.area]
def Vm(T:Txt mg)(q1:ba P w K mg base "_law_meets" 1 (aF K v))(Q:tK v)(q2:ba P w K mg base "_law_touches" 2 (aF K B))(q3:ba P w K mg base "_law_ties" 1 (aF K C))(F:bb K "_law_is_floor" "_law_is_floor" Bg f S):∃fn,aV P w K mg base bc 3 f S ["_law_web_here","_law_rows"] (aF K fn)/\Bz B C fn:=by
 $$$(bX F Kf (n:=2) ρ ?hb ?G)
 case hb=>let nd:=Kf.nd;$("h")
 clear T F q1 q2 q3;ext web rs R ne hw tw ok I hT;let sz:rs.length<=sizeLine:=by let:=ok.bI;$$(c6);lia
 let sw:web.length<=sizeLine:=by$$(c6);lia
 let bI:=ok.bI;let U:kP [.L (rs.map λy=>Dat.str y.1)]=al (.O (.L ((aD (rs.map (·.1))).map .str))):=by let:=uu (l:=rs.map (·.1)) (by rw[a8];$_);rw[eX]at this;$this
 let V:kP [.L (web.map λy=>Dat.str y.1)]=al (.O (.L ((aD (web.map (·.1))).map .str))):=by let:=uu (l:=web.map (·.1)) (by rw[a8];$_);rw[eX]at this;$this
 let b1:=lO (λy:eS×Ob=>y.2.r) ne;let b2:=lO (λy:eS×Ob=>y.2.t) ne;let t1:∀x∈aD (rs.map (·.1)),bj x:=λx g=>by let(y,c,rfl):=ae.1<|kM.1 g;$(ok.tx y c)
 let t2:∀x∈aD (web.map (·.1)),bj x:=λx g=>by let(y,c,rfl):=ae.1<|kM.1 g;$(tw y c)
 $$$(cE ρ ?w);show WS _ [.D (.L<|web.map pairD),.D<|aw rs,.no,.no,.no] _;$$$(ah<|eI (bL<|ay (ag (fh<|aC (aa (ag (cX (enc:=ai) (xs:=rs) (λy=>[.no,.D<|ai y]) (λy=>.str y.1) (bP ρ) ρ sz ?W (λy _=>aY ρ ρ ρ ρ)<|λ_ _=>rfl) ρ) ak) U) ρ) (ag (fh<|aC (aa (ag (cX (enc:=pairD) (xs:=web) (λy=>[.no,.D<|.str y.1,.D<|.L<|y.2.map .str]) (λy=>.str y.1) (bP ρ) ρ sw ?X (λy _=>rfl)<|λ_ _=>rfl) ρ) ak) V) ρ)<|zk t1 t2) ?Y ?no)
 case W=>ext y _ Z (rfl|⟨z,rfl⟩)<;>rfl
 case X=>ext y _ Z (rfl|⟨z,rfl⟩)<;>rfl
 case Y =>
  ext h;let J:¬aD (rs.map (·.1))=aD (web.map (·.1)):=by$$$$h
  let e:R=bn:=I (by$$(ni);rw[decide_eq_false J];rfl);$$e;$(ah<|bY ρ ⟨_,ρ⟩)
 ext h;let J:aD (rs.map (·.1))=aD (web.map (·.1)):=by$$$$h
 $$$(aP<|aq<|ah<|aN (Z2:=[.D (.L<|web.map pairD),.D<|aw rs,.D<|.int 0,.no,.no]) ρ ρ<|aq ?_);let D:∀x∈rs,j3 rs x=bn->R=bn:=λx g z=>I (by$$(ni);rw[afL.2 {x,g,by rw[z];decide},aad,aeg])
 $$$(ah<|dD (λn Z=>∃o i,Fr o/\Fr i/\(∀x∈rs.take n,j3 rs x=bi)/\Z=[.D (.L<|web.map pairD),.D<|aw rs,.D<|.int<|eZ<|rs.take n,o,i]) (bP ρ) ⟨_,_,ι ρ,ι ρ,⋯,rfl⟩ ?st ?fin)
 case fin =>
  ext _ ⟨o,i,_,_,p,rfl⟩;rw[a8,lq]at p;rw[a8,lq];let YA:eA (fI (rs.map λy=>y.2.r)) (fI (rs.map λy=>y.2.t))=bi:=by
   let(x,g,ex):=ae.1<|oE (ns:=rs.map λx=>x.2.r) (by$$$$ne);let(y,c,q):=ae.1<|oE (ns:=rs.map λx=>x.2.t) (by$$$$ne);let W:=(ok.nu x g).2.2.1;let X:=(ok.nu y c).2.2.2;$(xH ?_ ?_)
   .rw[<-ex];$_
   rw[<-q];$_
  let L:rs.all (j3 rs)=bi:=kz.2 p;$$$(aq<|ah<|eI (bL<|ay ρ (ag (fh<|ay (ag (aC (aa (ag (cX (enc:=ai) (xs:=rs) (λy=>[.no,.D<|ai y]) (λy=>.int y.2.r) (bP ρ) ρ sz ?p1 (λy _=>aY ρ ρ ρ ρ)<|λ_ _=>rfl) ρ) ak) b1) ρ) (ag (aC (aa (ag (cX (enc:=ai) (xs:=rs) (λy=>[.no,.D<|ai y]) (λy=>.int y.2.t) (bP ρ) ρ sz ?p2 (λy _=>aY ρ ρ ρ ρ)<|λ_ _=>rfl) ρ) ak) b2) ρ)<|ke YA) ρ)<|ne_int _ _) ?M ?no3)
  case p1=>ext y _ Z (rfl|⟨z,rfl⟩)<;>rfl
  case p2=>ext y _ Z (rfl|⟨z,rfl⟩)<;>rfl
  case M =>
   ext h;let N:¬eZ rs=bB rs*bH rs:=by simp?[pe,decide_eq_false_iff_not]at h;$h
   let e:R=bn:=I (by$$(ni);simp?[decide_eq_false N,aad]);$$e;$(ah<|bY ρ ⟨_,ρ⟩)
  ext h;let N:eZ rs=bB rs*bH rs:=by simp?[aap,decide_eq_true_eq]at h;$h
  let(a,b,e2,e3,e4):=hT (by$$(ni);simp?[decide_eq_true J,L,decide_eq_true N];rfl);$(aP<|aq<|ah<|bY (ay (ag (aC (aa ρ ak) e2) ρ) (ag (aC (aa ρ ak) e3) ρ) e4)<|eB ⟨_,ρ⟩)
 ext n y c _ ⟨o,i,f3,m,p,rfl⟩;rw[dk]at c;let(x,ex,rfl):=ft.1 c;let g:=eH ex;let nu:=ok.nu x g;$({[.D (.L<|web.map pairD),.D<|aw rs,.D<|.int<|eZ<|rs.take n,.D<|ai x,i],by let rfl||(d,rfl):=f3<;>rfl,?_});let eg:(bd ((if x.2.b<x.2.l then x.2.b else x.2.l)<0)||(bd (x.2.r<=x.2.l)||bd (x.2.t<=x.2.b)))=!uV x.2:=by$$(uV);rw[ph];simp?[adW,decide_eq_true_eq,pe,aeS,decide_eq_false_iff_not];split<;>$_
 $$$(ah<|eI (tT (b:=bd<|(if x.2.b<x.2.l then x.2.b else x.2.l)<0) (b':=bd (x.2.r<=x.2.l)||bd (x.2.t<=x.2.b)) ?h1 ?h2) ?O ?no2)
 case h1=>$(bL<|ay (ag (aC (aa (aY ρ ρ ρ ρ)<|aa (aY ρ ρ ρ ρ) ak) ρ) ρ) ρ ρ)
 case h2=>$(tT (bL<|ay (aY ρ ρ ρ ρ) (aY ρ ρ ρ ρ)<|ke ρ)<|bL<|ay (aY ρ ρ ρ ρ) (aY ρ ρ ρ ρ)<|ke ρ)
 case O=>ext h;rw[eg,pe]at h;let e:R=bn:=D x g (by$$(j3);rw[h];rfl);$$e;$(ah<|bY ρ ⟨_,ρ⟩)
 ext h;rw[eg,aap]at h;$$$(aP<|aq<|ah<|aN (Z2:=[.D (.L<|web.map pairD),.D<|aw rs,.D<|.int<|eZ<|rs.take<|n+1,.D<|ai x,i]) (ay (r:=.D<|.int<|eZ<|rs.take<|n+1) ρ (ag (fh<|ay (ag (ay (aY ρ ρ ρ ρ) (aY ρ ρ ρ ρ)<|ke ρ) ρ) (ag (ay (aY ρ ρ ρ ρ) (aY ρ ρ ρ ρ)<|ke ρ) ρ)<|ke ?m0) ρ) ?m1) ρ<|aq ?_)
 case m0=>$(xH ∅ ∅)
 case m1=>rw[VY ex];rfl
 $$$(ah<|dD (λj Z=>∃i,Fr i/\(∀y∈rs.take j,pN x y=bn)/\Z=[.D (.L<|web.map pairD),.D<|aw rs,.D<|.int<|eZ<|rs.take<|n+1,.D<|ai x,i]) (bP ρ) ⟨_,m,⋯,rfl⟩ ?s2 ?f2)
 case f2 =>
  ext _ ⟨i,m,ho,rfl⟩;rw[a8,lq]at ho;$(aq<|aP ⟨_,_,τ ⟨_,ρ⟩,m,λz hz=>?_,ρ⟩);rw[eC ex]at hz;let hz||hz:=eK.1 hz
  .$(p z hz)
  rw[kn.1 hz];$$(j3);rw[h,abz,kz];ext y c;rw[ho y c];rfl
 ext j y c _ ⟨i,m,ho,rfl⟩;rw[dk]at c;let(y,q,rfl):=ft.1 c;let c:=eH q;$({[.D (.L<|web.map pairD),.D<|aw rs,.D<|.int<|eZ<|rs.take<|n+1,.D<|ai x,.D<|ai y],by let rfl||(d,rfl):=m<;>rfl,?_});$(ah (eI (qM (bL<|ay ρ ρ<|Wy (ok.tx x g)<|ok.tx y c)<|qM (fw (ag (aC (aa ρ<|aa ρ<|aa ρ ak)<|Q x y 1<|ι ρ) ρ) ρ)<|fw (ag (aC (aa ρ<|aa ρ<|aa ρ ak)<|Q x y 2<|τ ρ) ρ) ρ) (λz=>?_) λz=>aP<|aq<|aP ⟨_,τ ⟨_,ρ⟩,λu k=>?_,ρ⟩))
 .let z:pN x y=bi:=z;let e:R=bn:=D x g (by$$(j3);rw[afL.2 {y,c,by rw[z];decide},aad])
  $$e;$(ah<|bY ρ ⟨_,ρ⟩)
 let z:pN x y=bn:=z;rw[eC q]at k;let k||k:=eK.1 k
 .$(ho u k)
 rw[kn.1 k];$z
end
local macro_rules | `(tactic| walk_at "0")=>Mq.fs "VP rrirararrD"
section
variable{P:hZ}{w:nL}{K:f'}{mg:eS->Option cm}{base:nk}
def Xr(a b):aD [a,b]≠[]:=λz=>by let:=(gk [a,b] dh).length_eq;rw[show[a,b].mergeSort dh=[]from z]at this;$$$this
def cY(web:bp):List (List eS):=web.flatMap λp=>p.2.map λn=>aD [p.1,n]
def yk(fn:aS):Prop:=∀web:bp,web.length<=50->(∀p∈web,p.2.length<=50)->2<=(eE<|cY web).length->(eE<|cY web).length<64->fn [.L (web.map pairD)]=al (.O<|.L<|(cM<|eE<|cY web).map tupS)
def QX:∀f∈cY web,f≠[]:=λf a e=>by$$e;let(p,_,b):=hY.1 a;let(n,_,e):=ae.1 b;$(Xr _ _ e)
theorem E2:∀web:bp,(∀p∈web,p.2.length<=50)->(cY web).length<=web.length*50
 |[],_=>nT _
 |p::l,h=>by let h1:=h p fm;let:=E2 l λq a=>h q<|fk _ a;let e:cY (p::l)=(p.2.map λn=>aD [p.1,n])++cY l:=ρ;simp?[e,eR,a8,g8,abV];lia
def VW(T:Txt mg)(hset:mg "set"=am)(F:bb K "_law_ties" "_law_ties" zW f e):∃fn,aV P w K mg base bc 1 f e ["_law_web_here"] (aF K fn)/\yk fn:=by
 $$$(bX F Dh (n:=1) ρ ?D ?B)
 case D=>let nd:=Dh.nd;$("h")
 clear T F;ext web h50 a j g;$$$(cE ρ ?w);show WS _ [.D (.L<|web.map pairD),.no,.no,.no] _;$$$(ah<|aN (Z2:=[.D (.L<|web.map pairD),.O<|.L [],.no,.no]) (ck ak<|nT _) ρ<|aq ?_);$$$(ah<|dD (λn Z=>∃b c,Fr b/\Fr c/\Z=[.D (.L<|web.map pairD),.O<|.L<|(cY<|web.take n).map tupS,b,c]) (bP ρ) ⟨_,_,ι ρ,ι ρ,ρ⟩ ?st ?C)
 case C=>ext _ ⟨b,c,_,_,rfl⟩;rw[a8,lq];$$$(aq<|ah<|bY (r:=.O<|.L<|(cM<|eE<|cY web).map tupS) (Z1:=[.D (.L<|web.map pairD),.D<|.L<|(cY web).map tupS,b,c]) ?x<|eB ⟨_,ρ⟩);show(kr<|(cY web).map tupS).bind _=_;rw[wX QX];$(if_pos ⟨j,g⟩)
 ext n y h _ ⟨b,c,k,l,rfl⟩;rw[dk]at h;let(p,ep,rfl):=ft.1 h;let m:=eH ep;let hn:=(cn.1 ep).1;let i:=E2 (web.take n) λq o=>a q<|abC o;let l2:=a p m;rw[iW]at i;let t:cY (web.take<|n+1)=cY (web.take n)++p.2.map λn=>aD [p.1,n]:=by$$(cY);simp?[eC ep,aa0];simp
 simp?[t,fv,eX];let hA:(cY<|web.take n).length<=2500:=n5 i (by lia);generalize cY (web.take n)=A at *;$({[.D (.L<|web.map pairD),.O<|.L<|A.map tupS,.D<|.str p.1,.D<|.L<|p.2.map .str],by let rfl||(d,rfl):=k<;>let rfl||(d,rfl):=l<;>rfl,?_});$$$(ah<|aN (Z2:=[.D (.L<|web.map pairD),.O<|.L (A.map tupS++p.2.map λn=>tupS<|aD [p.1,n]),.D<|.str p.1,.D<|.L<|p.2.map .str]) (ay (Z1:=[.D (.L<|web.map pairD),.D<|.L<|A.map tupS,.D<|.str p.1,.D<|.L<|p.2.map .str]) ρ (ag (cX (enc:=Dat.str) (xs:=p.2) (λn=>[.no,.D<|.str n,.D<|.str p.1]) (λn=>tupS<|aD [p.1,n]) (bP ρ) ρ (by$$(c6);lia) ?G (λn _=>by rfl)<|λ_ _=>rfl) ρ)<|pU (by rw[a8,a8];$$(c6);lia)) ρ<|aq<|aP ⟨_,_,τ ⟨_,ρ⟩,τ ⟨_,ρ⟩,ρ⟩);ext y _ Z (rfl|⟨z,rfl⟩)<;>rfl
def lL:aD [a,b]=aD [c,d]↔(a=c/\b=d)\/(a=d/\b=c):=by
 rw[kh];constructor
 .ext p;let e:=p.mem_iff.1 fm;let rfl||e:=eW.1 e
  .$(ι {ρ,adN.1 p.cons_inv})
  let rfl:=kn.1 e;$(τ {ρ,adN.1 (p.trans<|.swap _ _ _).cons_inv})
 ext (⟨rfl,rfl⟩|⟨rfl,rfl⟩)
 .$(.refl _)
 $(.swap _ _ _)
def zP(a b):aD [a,b]=aD [b,a]:=lL.2<|τ ⟨ρ,ρ⟩
def rq:List eS->List (List eS)
 |[]=>[]
 |a::l=>(l.map λb=>aD [a,b])++rq l
theorem FX:∀l:List eS,2*(rq l).length+l.length=l.length*l.length
 |[]=>rfl
 |a::l=>by let:=FX l;grind [rq]
theorem GV:∀{l:List eS}{x y:eS},x∈l->y∈l->x≠y->aD [x,y]∈rq l
 | a::l,x,y,f,c,d=>by
  dsimp[rq];rw[eK];let rfl||e:=eW.1 f
  .let rfl||b:=eW.1 c
   .$(absurd ρ d)
   $(ι<|ae.2 ⟨y,b,ρ⟩)
  let rfl||b:=eW.1 c
  .$(ι<|ae.2 ⟨x,e,zP _ _⟩)
  $(τ<|GV e b d)
theorem CC{rooms:List eS}{l:List (List eS)}(g:rooms.length<=8)(nd:l.Nodup)(h:∀f∈l,∃a∈rooms,∃b,((b∈rooms/\a≠b)\/b∈cJ)/\f=aD [a,b]):l.length<64:=by
 let key:l.length<=(rq rooms++rooms.flatMap λa=>cJ.map λb=>aD [a,b]).length:=xU nd λf i=>by
  let(a,d,b,c,rfl):=h f i;rw[eK];let(c,j)||c:=c
  .$(ι<|GV d c j)
  $(τ<|hY.2 ⟨a,d,ae.2 ⟨b,c,ρ⟩⟩)
 let e:∀l:List eS,(l.flatMap λa=>cJ.map λb=>aD [a,b]).length=4*l.length:=λl=>by
  induction l with
  |nil=>rfl
  |cons a l k=>simp?[ado,eR,k,a8,g8];show 4+_=_;lia
 simp?[eR,e]at key;let p:=FX rooms;let q:=afb rooms.length g;lia
def rD (c:x.ok)(d:y.ok):jk x y=bi↔bM 0 x y=bi\/bM 1 x y=bi:=by delta jk gQ;rw[sJ (ι ρ) c d,sJ (τ ρ) c d];show _↔(bd (y.b=x.t)&&dP 1 x y)=bi\/(bd (y.l=x.r)&&dP 2 x y)=bi;simp;rw[eq_comm,eq_comm (a:=y.l)]
def mY:bM 2 x y=bM 0 y x/\bM 3 x y=bM 1 y x:=by show(bd (y.t=x.b)&&(bd (x.l<y.r)&&bd (y.l<x.r)))=(bd (x.b=y.t)&&(bd (y.l<x.r)&&bd (x.l<y.r)))/\(bd (y.r=x.l)&&(bd (x.b<y.t)&&bd (y.b<x.t)))=(bd (x.l=y.r)&&(bd (y.b<x.t)&&bd (x.b<y.t)));lia
def aE.ie (F:aE rs)(b:x∈rs)(c:k<4):n∈cb rs x.2 k↔(fy rs x.2 k/\n=az k)\/∃y∈rs,bM k x.2 y.2=bi/\n=y.1:=by
 constructor
 .ext h;unfold cb at h;$$$$$h
  .ext1 e;$(ι {adI λz=>F.inner b c z e,kn.1 h})
  let(p,d,rfl):=ae.1 h;let(y,a,rfl):=ae.1<|xD.1 d;let:=hG.1 a;$(τ ⟨y,this.1,this.2,ρ⟩)
 ext (⟨f,rfl⟩|⟨y,a,g,rfl⟩)
 .delta cb;rw[if_pos (F.outer b c f)];$(kn.2 ρ)
 let hm:(cO k y.2,y.1)∈gE rs x.2 k:=ae.2 {y,hG.2 ⟨a,g⟩,ρ};delta cb;rw[if_neg (List.ne_nil_of_mem hm)];$(ae.2 {_,xD.2 hm,ρ})
def aE.qS (F:aE rs)(c:x∈rs):n∈gw rs x↔(∃k,k<4/\fy rs x.2 k/\n=az k)\/∃y∈rs,(jk x.2 y.2=bi\/jk y.2 x.2=bi)/\n=y.1:=by
 rw[qU F c];constructor
 .ext h;let(k,d,h):=hY.1 h;let d:=hI.1 d;let(a,b)||(y,f,g,e):=(F.ie c d).1 h
  .$(ι ⟨k,d,a,b⟩)
  $(τ {y,f,?_,e});simp?[rD (F.ok c) (F.ok f),rD (F.ok f)<|F.ok c];let d:k=0\/k=1\/k=2\/k=3:=⋯;let rfl||rfl||rfl||rfl:=d
  .$(ι<|ι g)
  .$(ι<|τ g)
  .$(τ<|ι<|mY.1 ▸ g)
  $(τ<|τ<|mY.2 ▸ g)
 let go:∀k,k<4->n∈cb rs x.2 k->n∈dH rs x.2 4:=λk d h=>hY.2 {k,hI.2 d,h};ext (⟨k,d,a,b⟩|⟨y,f,h,e⟩)
 .$(go k d<|(F.ie c d).2 (ι ⟨a,b⟩))
 simp?[rD (F.ok c) (F.ok f),rD (F.ok f)<|F.ok c]at h;let(h||h)||h||h:=h
 .$(go 0 ⋯ ((F.ie c ⋯).2 (τ ⟨y,f,h,e⟩)))
 .$(go 1 ⋯ ((F.ie c ⋯).2 (τ ⟨y,f,h,e⟩)))
 .$(go 2 ⋯ ((F.ie c ⋯).2 (τ {y,f,mY.1.symm ▸ h,e})))
 $(go 3 ⋯ ((F.ie c ⋯).2 (τ {y,f,mY.2.symm ▸ h,e})))
def vg:f∈d9 rs x (dO rs x.2)↔∃k,k<4/\fy rs x.2 k/\f=aD [x.1,az k]:=by
 delta d9;rw[ae];constructor
 .ext⟨s,hs,rfl⟩;let(hs,a):=hG.1 hs;let a:=of_decide_eq_true a;simp[dO]at hs;let rfl||rfl||rfl||rfl:=hs
  .$({0,⋯,a,ρ})
  .$({1,⋯,a,ρ})
  .$({2,⋯,a,ρ})
  $({3,⋯,a,ρ})
 ext⟨k,c,a,rfl⟩;let c:k=0\/k=1\/k=2\/k=3:=⋯;let rfl||rfl||rfl||rfl:=c
 .$({(x.2.t,bH rs,"north"),hG.2 {by simp[dO],decide_eq_true a},ρ})
 .$({(x.2.r,bB rs,"east"),hG.2 {by simp[dO],decide_eq_true a},ρ})
 .$({(x.2.b,0,"south"),hG.2 {by simp[dO],decide_eq_true a},ρ})
 $({(x.2.l,0,"west"),hG.2 {by simp[dO],decide_eq_true a},ρ})
def rZ:f∈fN x rs↔∃y∈rs,jk x.2 y.2=bi/\f=aD [x.1,y.1]:=by
 delta fN;rw[ae];constructor
 .ext⟨y,a,rfl⟩;$({y,(hG.1 a).1,(hG.1 a).2,ρ})
 ext⟨y,a,h,rfl⟩;$({y,hG.2 ⟨a,h⟩,ρ})
def rb:f∈cY (ju rs)↔∃x∈rs,∃n∈gw rs x,f=aD [x.1,n]:=by
 dsimp[cY,ju];rw[hY];constructor
 .ext⟨p,c,h⟩;let(x,a,rfl):=ae.1 c;let(n,b,rfl):=ae.1 h;$(⟨x,a,n,b,ρ⟩)
 ext⟨x,a,n,b,rfl⟩;$({_,ae.2 ⟨x,a,ρ⟩,ae.2 ⟨n,b,ρ⟩})
def aE.wg (F:aE rs):f∈dJ rs rs↔f∈cY (ju rs):=by
 rw[rb];delta dJ;rw[hY];constructor
 .ext⟨x,a,h⟩;let h||h:=eK.1 h
  .let(k,d,e,rfl):=vg.1 h;$({x,a,_,(F.qS a).2 (ι ⟨k,d,e,ρ⟩),ρ})
  let(y,c,b,rfl):=rZ.1 h;$({x,a,_,(F.qS a).2 (τ {y,c,ι b,ρ}),ρ})
 ext⟨x,a,n,g,rfl⟩;let(k,d,e,rfl)||(y,c,b||b,rfl):=(F.qS a).1 g
 .$({x,a,eK.2<|ι<|vg.2 ⟨k,d,e,ρ⟩})
 .$({x,a,eK.2<|τ<|rZ.2 ⟨y,c,b,ρ⟩})
 $({y,c,eK.2<|τ<|rZ.2 ⟨x,a,b,zP _ _⟩})
def Bs (c:x.ok)(d:y.ok)(h:jk x y=bi):jk y x=bn:=by
 rw[<-zd];ext e;rw[rD c d]at h;rw[rD d c]at e;unfold Ob.ok at c d;let f:∀a b:Ob,bM 0 a b=bi↔b.b=a.t/\a.l<b.r/\b.l<a.r:=λa b=>by show(bd (b.b=a.t)&&(bd (a.l<b.r)&&bd (b.l<a.r)))=bi↔_;simp
 let g:∀a b:Ob,bM 1 a b=bi↔b.l=a.r/\a.b<b.t/\b.b<a.t:=λa b=>by show(bd (b.l=a.r)&&(bd (a.b<b.t)&&bd (b.b<a.t)))=bi↔_;simp
 simp?[f,g]at h e;$_
def aE.ji (F:aE rs)(a:y∈rs)(k:Nat):az k≠y.1:=λe=>by let:=F.nm y a;grind [uQ]
def aE.WU (F:aE rs):(dJ rs rs).Nodup:=by
 delta dJ acE;rw[aeP];$({λx q=>?_,?_})
 .show (d9 rs x (dO rs x.2)++fN x rs).Nodup;rw[ka];$({?_,?_,λa d b i e=>?_})
  .delta d9;rw[acE,gd];$(md qh (?_:(dO rs x.2).Pairwise _));let key:∀a b:eS,a≠b->∀c,aD [c,a]≠aD [c,b]:=λa b n c e=>by
    let(_,h)||(j,l):=lL.1 e
    .$(n h)
    $(n<|l.trans j)
   delta dO;simp?[Rg,eW,gW,or_false,acJ,and_true,forall_eq_or_imp,forall_eq];refine{{key _ _ (by decide +kernel) _,key _ _ (by decide +kernel) _,key _ _ (by decide +kernel) _},{key _ _ (by decide +kernel) _,key _ _ (by decide +kernel) _},key _ _ (by decide +kernel) _,λa h=>nomatch h}
  .delta fN;rw[acE,gd];$(md qh ((gd.1 F.nd).imp λ{a b} n e=>?_));let(_,h)||(j,l):=lL.1 e
   .$(n h)
   $(n<|l.trans j)
  let(k,_,_,rfl):=vg.1 d;let(y,o,_,rfl):=rZ.1 i;let(_,h)||(_,h):=lL.1 e
  .$(F.ji o k h)
  $(F.ji q k h)
 let r:rs.Pairwise λa b=>a∈rs/\b∈rs/\a.1≠b.1:=by let:=gd.1 F.nd;rw[adn]at this ⊢;$(λ{a b} s=>{s.subset ⋯,s.subset ⋯,this s})
 $(r.imp λ{a b} h f t g u e=>?_);let(d,i,n):=h;$$e;let A:∀c∈rs,∀{f},f∈d9 rs c (dO rs c.2)++fN c rs->∃m,f=aD [c.1,m]/\((∃k,m=az k)\/∃y∈rs,m=y.1/\jk c.2 y.2=bi):=λc hc f h=>by
  let h||h:=eK.1 h
  .let(k,_,_,rfl):=vg.1 h;$({_,ρ,ι ⟨k,ρ⟩})
  let(y,o,v,rfl):=rZ.1 h;$({_,ρ,τ ⟨y,o,ρ,v⟩})
 let(m,rfl,j):=A a d t;let(m',e,l):=A b i u;let(h,_)||(h,h'):=lL.1 e
 .$(n h)
 subst h h';let(k,z)||(y,o,B,ty):=j
 .$(F.ji i k z.symm)
 let(k,z)||(z,hz,C,p):=l
 .$(F.ji d k z.symm)
 let D:=F.iU i o B;let E:=F.iU d hz C;subst D E;rw[Bs (F.ok d) (F.ok i) ty]at p;$$$p
theorem wL:∀a b:List (List eS),gG (a.map tupS) (b.map tupS)=bd (a=b)
 |[],[]=>rfl
 |[],_::_=>by simp[gG]
 |_::_,[]=>by simp[gG]
 |x::a,y::b=>by show(dm (.U<|x.map .str) (.U<|y.map .str)&&gG (a.map tupS) (b.map tupS))=_;rw[v8,wC,wL a b,ph];simp
theorem sk{l:List (List eS)}(h:∀f∈l,∀x∈f,bj x):bU (.L<|l.map tupS)=bi:=Fd (by rw[kz];ext d hd;let(f,a,rfl):=ae.1 hd;show(f.map Dat.str).all gr=bi;rw[kz];ext d hd;let(x,b,rfl):=ae.1 hd;$((h f a x b).ok))
theorem DZ{a b:List (List eS)}(c:∀f∈a,∀x∈f,bj x)(d:∀f∈b,∀x∈f,bj x):dN false (.L<|a.map tupS) (.L<|b.map tupS)=al (.D<|.bl<|bd<|a=b):=by rw[v_eq (sk c) (sk d),mM,wL]
def DB (a:x.ok)(c:y.ok):(gQ 1 x y&&gQ 2 x y)=bn↔Apart x y:=by$$(gQ);simp?[sJ (ι ρ) a c,sJ (τ ρ) a c];show((bd (x.l<y.r)&&bd (y.l<x.r))&&(bd (x.b<y.t)&&bd (y.b<x.t)))=bn↔_;$$(Apart);rw[<-zd];simp?[e8,decide_eq_true_eq];$_
def CK:uV x=bi↔0<=x.l/\x.l<x.r/\0<=x.b/\x.b<x.t:=by delta uV;simp;$_
def IX (h:cK web)(ne:rs≠[]):ni web rs=bi↔aE rs/\aD (rs.map (·.1))=aD (web.map (·.1)):=by
 $$(ni);simp?[e8,e8,decide_eq_true_eq,decide_eq_true_eq,kz];constructor
 .ext⟨⟨d,f⟩,i⟩;let pm:=kh.1 d;let nd:(rs.map (·.1)).Nodup:=pm.nodup_iff.2 h.nd;let row:∀x∈rs,0<=x.2.l/\x.2.l<x.2.r/\0<=x.2.b/\x.2.b<x.2.t:=λx a=>by let:=f x a;unfold j3 at this;rw[e8]at this;$(CK.1 this.1)
  $({{ne,?_,λx a=>?_,row,nd,?_,i},d})
  .let:=pm.length_eq;simp?[a8,a8]at this;let:=h.bI;lia
  .let(p,j,e):=ae.1<|pm.mem_iff.1<|ae.2 ⟨x,a,ρ⟩;rw[<-e];$(h.nm p j)
  let g:=gd.1 nd;rw[adn]at g ⊢;ext x y s;let a:x∈rs:=s.subset ⋯;let c:y∈rs:=s.subset ⋯;let e:=f x a;unfold j3 at e;simp?[e8,kz]at e;let e:=e.2 y c;unfold pN at e;rw[decide_eq_false λz:x=y=>g s<|z ▸ ρ]at e;let e:(gQ 1 x.2 y.2&&gQ 2 x.2 y.2)=bn:=by simpa only[Bool.not_false,abz,pe]using e
  $((DB {(row x a).2.1,(row x a).2.2.2} {(row y c).2.1,(row y c).2.2.2}).1 e)
 ext⟨F,d⟩;$({{d,λx a=>?_},F.ar});$$(j3);simp?[e8,kz];$({CK.2<|F.row x a,λy c=>?_});$$(pN);ext(e:x=y)
 .rw[decide_eq_true e];rfl
 let:Apart x.2 y.2:=by
  let z||z||z:=jQ F.ap a c
  .$(absurd z e)
  .$z
  grind [Apart]
 simp?[(DB (F.ok a)<|F.ok c).2 this,aad];rfl
def aE.FO (F:aE rs)(a:x∈rs)(d:n∈gw rs x):((n∈rs.map (·.1)/\x.1≠n)\/n∈cJ):=by
 let(k,f,_,rfl)||(y,c,b,rfl):=(F.qS a).1 d
 .$(τ<|oK f)
 $(ι {ae.2 ⟨y,c,ρ⟩,λe=>?_});let:=F.iU a c e;$$this;let b||b:=b
 .let:=Bs (F.ok a) (F.ok a) b;simp!
 let:=Bs (F.ok a) (F.ok a) b;simp!
theorem we{rs:Fl}(nd:(rs.map (·.1)).Nodup){x:eS×Ob}(a:x∈rs):dX (ju rs) x.1=gw rs x:=fE (p:=(x.1,gw rs x)) (by$$(ju);rw[eX];$nd)<|ae.2 ⟨x,a,ρ⟩
def RA (h:cK web)(hw:fX web)(F:aE rs)(c:aD (rs.map (·.1))=aD (web.map (·.1))):(∀f,f∈cY (ju rs)↔f∈cY web)↔∀p∈web,aD p.2=aD (dX (ju rs) p.1):=by
 let pm:=kh.1 c;let i:∀{f},f∈cY web↔∃p∈web,∃n∈p.2,f=aD [p.1,n]:=λ{f}=>by$$(cY);rw[hY];$({λ⟨p,a,h⟩=>by let(n,c,rfl):=ae.1 h;$(⟨p,a,n,c,ρ⟩),λ⟨p,a,n,c,e⟩=>{p,a,ae.2 ⟨n,c,e.symm⟩}})
 let of:∀p∈web,∃x∈rs,x.1=p.1:=λp a=>by let(x,b,e):=ae.1<|pm.mem_iff.2<|ae.2 ⟨p,a,ρ⟩;$(⟨x,b,e⟩)
 let r:(∀p∈web,aD p.2=aD (dX (ju rs) p.1))↔∀p∈web,∀x∈rs,x.1=p.1->∀n,n∈p.2↔n∈gw rs x:=by
  constructor
  .ext H p a x b e n;let:=kh.1<|H p a;rw[<-e,we F.nd b]at this;$this.mem_iff
  ext H p a;let(x,b,e):=of p a;rw[<-e,we F.nd b,kh];$((iR (h.rg p a).2.1 (by rw[qU F b];$(F.u4 b))).2 (H p a x b e))
 rw[r];constructor
 .ext H p a x b e n;constructor
  .ext c;let(y,j,m,hm,l):=rb.1 ((H _).2 (i.2 ⟨p,a,n,c,ρ⟩));let(d,g)||(d,g):=lL.1 l
   .let:=F.iU b j (e.trans d);simp!
   let:m=x.1:=d.symm.trans e.symm;rw[this]at hm;rw[g];let(k,_,_,z)||(z,hz,t,v):=(F.qS j).1 hm
   .$(absurd z.symm<|F.ji b k)
   let:=F.iU b hz v;$$this;$((F.qS b).2 (τ ⟨y,j,t.symm,ρ⟩))
  ext c;let(q,o,m,hm,l):=i.1 ((H _).1 (rb.2 ⟨x,b,n,c,ρ⟩));let(d,g)||(d,g):=lL.1 l
  .let:dX web p.1=dX web q.1:=by rw[<-e,d]
   simp?[fE h.nd a,fE h.nd o]at this;simp!
  let s:p.1∈web.map (·.1):=ae.2 ⟨p,a,ρ⟩;let u:q.1∈web.map (·.1):=ae.2 ⟨q,o,ρ⟩;let hm:p.1∈dX web q.1:=by simp?[fE h.nd o,<-e,d];$hm
  let:=hw.C.sym q.1 u p.1 s hm;simp?[fE h.nd a,<-g]at this;$this
 ext H f;rw[rb,i];constructor
 .ext⟨x,b,n,c,rfl⟩;let(p,a,e):=ae.1<|pm.mem_iff.1<|ae.2 ⟨x,b,ρ⟩;$({p,a,n,(H p a x b e.symm n).2 c,by rw[e]})
 ext⟨p,a,n,c,rfl⟩;let(x,b,e):=of p a;$({x,b,n,(H p a x b e n).1 c,by rw[e]})
theorem X4 (q:zO j)(t:yk k)(s:Bz j k fn)(h:cK web)(hw:fX web)(ok:gX rs)(ne:rs≠[]):fn [.L (web.map pairD),aw rs]=al (.D<|.bl<|eG web rs):=by
 let bI:=h.bI;$(s web rs (eG web rs) ne (by lia) (λp g=>h.txt<|ι<|ae.2 ⟨p,g,ρ⟩) ok (λz=>?_) λz=>?_)
 .rw[<-zd]at z ⊢;ext y;unfold eG at y;simp?[e8,e8,decide_eq_true_eq]at y;$(z<|(IX h ne).2 ⟨(uM rs).1 y.1.1,y.1.2.symm⟩)
 let(F,i):=(IX h ne).1 z;let nt:=F.WU;let lt:(dJ rs rs).length<64:=CC (rooms:=rs.map (·.1)) (by rw[a8];$F.bI) nt λf c=>by let(x,d,n,i,rfl):=rb.1<|F.wg.1 c;$({x.1,ae.2 ⟨x,d,ρ⟩,n,F.FO d i,ρ})
 let ld:(eE<|cY web).length<64:=CC (rooms:=web.map (·.1)) (by rw[a8];$(bI.2)) (zo _) λf c=>by let(p,g,c):=hY.1<|og.1 c;let(n,i,rfl):=ae.1 c;let:=(h.rg p g).2.2 n i;$({p.1,ae.2 ⟨p,g,ρ⟩,n,this.1.elim (λz=>ι {z,λe=>this.2 e.symm}) τ,ρ})
 let u:2<=(eE<|cY web).length:=by
  obtain⟨p,g⟩:∃p,p∈web:=by
   cases web with
   |nil=>simp at bI
   |cons p l=>$(⟨p,fm⟩)
  let r:=h.rg p g;$(n5 (Nat.le_of_succ_le r.1) ?_);rw[<-a8 (f:=λn=>aD [p.1,n])];$(YP ?_ λf c=>og.2<|hY.2 ⟨p,g,c⟩);rw[acE,gd];$(List.Pairwise.imp (λ{a b} n e=>?_) r.2.1);let(_,z)||(v,A):=lL.1 e
  .$(n z)
  $(n<|A.trans v)
 let m:∀p∈web,p.2.length<=50:=λp g=>n5 (h.len g) ⋯;$({_,_,q rs ne (n5 F.bI ⋯) ok.tx nt lt,t web (by lia) m u ld,?_});rw[DZ]
 .let e:bd (cM (dJ rs rs)=cM (eE<|cY web))=eG web rs:=by
   $$(eG);rw[(uM rs).2 F,decide_eq_true i.symm,abz,abz,ph,decide_eq_true_eq,kz];simp?[decide_eq_true_eq];rw[<-RA h hw F i];constructor
   .ext e f;rw[<-F.wg,<-og (fs:=cY web)];let o:(cM<|dJ rs rs).Perm (dJ rs rs):=gk _ _;let B:(cM<|eE<|cY web).Perm (eE<|cY web):=gk _ _;rw[e]at o;$((o.symm.trans B).mem_iff)
   ext e;$(uC ((iR nt<|zo _).2 λf=>by rw[F.wg,e f,og]))
  rw[e]
 .ext f c x d;let c:f∈dJ rs rs:=(gk _ _).mem_iff.1 c;let(y,C,n,i,rfl):=rb.1<|F.wg.1 c;let d:=kM.1 d;let rfl||d:=eW.1 d
  .$(ok.tx y C)
  rw[kn.1 d];$(Dy ok n i)
 ext f c x d;let c:f∈eE (cY web):=(gk _ _).mem_iff.1 c;let(p,g,c):=hY.1<|og.1 c;let(n,i,rfl):=ae.1 c;let d:=kM.1 d;let rfl||d:=eW.1 d
 .$(h.txt<|ι<|ae.2 ⟨p,g,ρ⟩)
 rw[kn.1 d];$(h.txt ((h.rg p g).2.2 n i).1)
theorem KL(T:Txt mg)(F:bb K "is_whole" "is_whole" Ce f c):aV P w K mg base bc 1 f c ["thing"] (aF K w6):=by
 $$$(DJ F HQ ?B ?C ?D)
 case B =>
  ext ds r h;unfold w6 at h;$$$$$h
  .rfl
  $(nO h)
 case C=>$("h")
 ext ds r h;unfold w6 at h;$$$$$h
 .ext1 d;cases e:lC d "int" with
  |none=>simp!
  |some a =>
   cases g:lC d "bool" with
   |none=>simp!
   |some b=>rw[e,g]at h;$$$$$$h;$$$a<;>simp[jg,eJ,lx,mm,rY,uI,kO,eY,mU,Ad,e,g]
 $(nO h)
def cu(x n:eS)(k:Nat):List Str:=[if k%2=0 then"up" else"on",if k<2 then x else n,if k<2 then n else x]
def je(rs:Fl)(a:bp):Prop:=∀p∈a,∃x∈rs,x.1=p.1/\∀n,n∈p.2↔∃k,k<4/\n∈cb rs x.2 k
def fL(rs:Fl)(x:eS×Ob)(n:eS):Option (List eS) :=
 if n=az 0 then al (cu x.1 n 0)else if n=az 1 then al (cu x.1 n 1)else if n=az 2 then al (cu x.1 n 2)else if n=az 3 then al (cu x.1 n 3)else
 match rs.find? λy=>bd (y.1=n)with
 |some y=>if x.2.t=y.2.b then al (cu x.1 n 0)else if x.2.r=y.2.l then al (cu x.1 n 1)else am
 |none=>am
theorem yh{rs:Fl}(nd:(rs.map (·.1)).Nodup){y:eS×Ob}(a:y∈rs):(rs.find? λq=>bd<|q.1=y.1)=al y:=by
 cases e:rs.find? λq=>bd (q.1=y.1)with
 |none=>$(absurd (aao.1 e y a) ⋯)
 |some q=>let b:=z7 e;let c:=aa7 e;rw[GQ nd b a (by$$$$c)]
theorem CL{rs:Fl}(F:aE rs){x y:eS×Ob}(a:y∈rs):fL rs x y.1=if x.2.t=y.2.b then al (cu x.1 y.1 0)else if x.2.r=y.2.l then al (cu x.1 y.1 1)else am:=by let nw:∀j,y.1≠az j:=λj e=>F.ji a j e.symm;$$(fL);rw[if_neg (nw 0),if_neg<|nw 1,if_neg<|nw 2,if_neg<|nw 3,yh F.nd a]
def keepR(n:eS)(k:Nat):Prop:=k<2\/∃j,j<4/\n=az j
theorem qI{rs:Fl}(F:aE rs){x:eS×Ob}(f:x∈rs){k:Nat}(g:k<4){n:eS}(h:n∈cb rs x.2 k):(keepR n k/\fL rs x n=al (cu x.1 n k))\/(¬keepR n k/\fL rs x n=am):=by
 let d:k=0\/k=1\/k=2\/k=3:=by lia
 let rfl||(y,c,a,rfl):=rK h
 .$(ι {τ ⟨k,g,ρ⟩,?_});let w:∀i j,i<4->j<4->i≠j->az i≠az j:=λi j m o p e=>p (qL m o e);$$(fL);let rfl||rfl||rfl||rfl:=d
  .rw[if_pos ρ]
  .rw[if_neg (w 1 0 ⋯ ⋯ ⋯),if_pos ρ]
  .rw[if_neg (w 2 0 ⋯ ⋯ ⋯),if_neg<|w 2 1 ⋯ ⋯ ⋯,if_pos ρ]
  rw[if_neg (w 3 0 ⋯ ⋯ ⋯),if_neg<|w 3 1 ⋯ ⋯ ⋯,if_neg<|w 3 2 ⋯ ⋯ ⋯,if_pos ρ]
 let nw:∀j,y.1≠az j:=λj e=>F.ji c j e.symm;rw[CL F c];let s:=F.ok f;let u:=F.ok c;unfold Ob.ok at s u;let rfl||rfl||rfl||rfl:=d
 .let q:(bd (y.2.b=x.2.t)&&(bd (x.2.l<y.2.r)&&bd (y.2.l<x.2.r)))=bi:=a;simp?[e8,decide_eq_true_eq]at q;$(ι {ι ⋯,if_pos q.1.symm})
 .let q:(bd (y.2.l=x.2.r)&&(bd (x.2.b<y.2.t)&&bd (y.2.b<x.2.t)))=bi:=a;simp?[e8,decide_eq_true_eq]at q;$(ι {ι ⋯,by rw[if_neg ∅,if_pos q.1.symm]})
 .let q:(bd (y.2.t=x.2.b)&&(bd (x.2.l<y.2.r)&&bd (y.2.l<x.2.r)))=bi:=a;simp?[e8,decide_eq_true_eq]at q;$(τ {λz=>z.elim (by lia) λ⟨j,_,z⟩=>nw j z,by rw[if_neg ∅,if_neg ∅]})
 let q:(bd (y.2.r=x.2.l)&&(bd (x.2.b<y.2.t)&&bd (y.2.b<x.2.t)))=bi:=a;simp?[e8,decide_eq_true_eq]at q;$(τ {λz=>z.elim (by lia) λ⟨j,_,z⟩=>nw j z,by rw[if_neg ∅,if_neg ∅]})
theorem Dp{x y n m:eS}{k j:Nat}(c:∀i,x≠az i)(d:∀i,y≠az i)(f:keepR n k)(g:keepR m j)(e:cu x n k=cu y m j):x=y/\n=m:=by
 unfold cu at e;simp?[List.cons.injEq,and_true]at e;ext(a:k<2)<;>ext(b:j<2)<;>simp?[a,b,if_true,if_false]at e
 .$(⟨e.2.1,e.2.2⟩)
 .let(i,_,z):=g.resolve_left b;$(absurd (e.2.1.trans z)<|c i)
 .let(i,_,z):=f.resolve_left a;$(absurd (e.2.1.symm.trans z)<|d i)
 $(⟨e.2.2,e.2.1⟩)
def xh(rs:Fl)(n:eS):eS×Ob:=(rs.find? λy=>bd<|y.1=n).getD (n,{0,0,0,0})
theorem pT{rs:Fl}(nd:(rs.map (·.1)).Nodup){y:eS×Ob}(a:y∈rs):xh rs y.1=y:=by$$(xh);rw[yh nd a];rfl
def cQ(rs:Fl)(a:bp):List (List eS):=a.flatMap λp=>p.2.filterMap<|fL rs<|xh rs p.1
theorem wV{rs:Fl}(F:aE rs){g:bp}(R:je rs g)(all:∀x∈rs,∃p∈g,p.1=x.1){r:List eS}:r∈cQ rs g↔∃x∈rs,∃k,k<4/\∃n∈cb rs x.2 k,r=cu x.1 n k:=by
 let back:∀x∈rs,∀k,k<4->∀n∈cb rs x.2 k,keepR n k->cu x.1 n k∈cQ rs g:=λx a k b n d kp=>by let(p,i,e):=all x a;let(y,c,l,f):=R p i;let:=F.iU c a<|l.trans e;$$this;$(hY.2 {p,i,pz.2 {n,(f n).2 ⟨k,b,d⟩,?_}});rw[e,pT F.nd c];$((qI F c b d).elim (λz=>z.2) λz=>absurd kp z.1)
 constructor
 .ext h;let(p,i,h):=hY.1 h;let(n,d,h):=pz.1 h;let(x,a,e,f):=R p i;let(k,b,hs):=(f n).1 d;rw[<-e,pT F.nd a]at h;$({x,a,k,b,n,hs,?_});let(_,z)||(_,z):=qI F a b hs
  .$((Option.some.inj<|z.symm.trans h).symm)
  rw[z]at h;$(nO h)
 ext⟨x,a,k,b,n,d,rfl⟩;ext(kp:keepR n k)
 .$(back x a k b n d kp)
 let rfl||(y,c,j,rfl):=rK d
 .$(absurd (τ ⟨k,b,ρ⟩) kp)
 let k2:k=2\/k=3:=by let:¬k<2:=λz=>kp<|ι z;lia
 let rfl||rfl:=k2
 .$(back y c 0 ⋯ x.1 ((F.ie c ⋯).2 (τ {x,a,mY.1 ▸ j,ρ}))<|ι ⋯)
 $(back y c 1 ⋯ x.1 ((F.ie c ⋯).2 (τ {x,a,mY.2 ▸ j,ρ}))<|ι ⋯)
theorem wF{rs:Fl}(F:aE rs){d:bp}(R:je rs d)(nw:(d.map (·.1)).Nodup)(v:∀p∈d,p.2.Nodup):(cQ rs d).Nodup:=by
 let key:∀p∈d,∀{n r},n∈p.2->fL rs (xh rs p.1) n=al r->∃k,keepR n k/\r=cu p.1 n k:=λp c n r y h=>by
  let(x,g,e,u):=R p c;let(k,A,hs):=(u n).1 y;rw[<-e,pT F.nd g]at h;let(kp,z)||(_,z):=qI F g A hs
  .$({k,kp,by rw[<-e];$((Option.some.inj<|z.symm.trans h).symm)})
  rw[z]at h;$(nO h)
 let wl:∀p∈d,∀i,p.1≠az i:=λp c i z=>by let(x,g,e,_):=R p c;$(F.ji g i<|z.symm.trans e.symm)
 $$(cQ);rw[acE,aeP];$({λp c=>?_,?_})
 .rw[aeA];$((ab4.1<|v p c).imp λ{a b} ⟨m,o,n⟩ r f q l e=>?_);let(k,kp,rfl):=key p c m f;let(j,t,rfl):=key p c o l;$(n (Dp (wl p c) (wl p c) kp t e).2)
 $((ab4.1<|gd.1 nw).imp λ{p q} ⟨c,l,n⟩ r f s hs e=>?_);let(a,m,f):=pz.1 f;let(b,o,hs):=pz.1 hs;let(k,kp,rfl):=key p c m f;let(j,t,rfl):=key q l o hs;$(n (Dp (wl p c) (wl q l) kp t e).1)
theorem Aa{rs:Fl}(F:aE rs){b:bp}(R:je rs b){r:List eS}(h:r∈cQ rs b):∃x∈rs,∃k,k<4/\∃n∈cb rs x.2 k,keepR n k/\r=cu x.1 n k:=by
 let(p,f,h):=hY.1 h;let(n,g,h):=pz.1 h;let(x,a,e,c):=R p f;let(k,d,hs):=(c n).1 g;rw[<-e,pT F.nd a]at h;let(kp,z)||(_,z):=qI F a d hs
 .$({x,a,k,d,n,hs,kp,(Option.some.inj<|z.symm.trans h).symm})
 rw[z]at h;$(nO h)
theorem yB(x n:eS)(k:Nat):aD ((cu x n k).drop 1)=aD [x,n]:=by
 show aD [if k<2 then x else n,if k<2 then n else x]=_;split
 .rfl
 $(zP _ _)
theorem aE.HE{rs:Fl}(F:aE rs){x:eS×Ob}(a:x∈rs){j k:Nat}(b:j<4)(c:k<4){n:eS}(d:n∈cb rs x.2 j)(e:n∈cb rs x.2 k):j=k:=adI λz=>F.oR a b c z d e ρ
theorem DR{rs:Fl}(F:aE rs){l:bp}(R:je rs l)(nd:(cQ rs l).Nodup):(cQ rs l).length<64:=by
 rw[<-a8 (f:=λr:List eS=>aD<|r.drop 1)];$(CC (rooms:=rs.map (·.1)) (by rw[a8];$F.bI) ?_ λf A=>?_)
 .rw[acE,gd];$((ab4.1 nd).imp λ{r s} ⟨p,hs,ne⟩ e=>?_);let(x,a,k,c,n,d,kp,rfl):=Aa F R p;let(y,b,j,t,m,hm,B,rfl):=Aa F R hs;simp?[yB,yB]at e;let(g,h)||(g,h):=lL.1 e
  .let:=F.iU a b g;subst this h;$(ne (by rw[F.HE a c t d hm]))
  let k2:k<2:=kp.elim id λ⟨i,_,z⟩=>absurd (z.symm.trans h) (F.ji b i);let j2:j<2:=B.elim id λ⟨i,_,z⟩=>absurd (z.symm.trans g.symm)<|F.ji a i;subst g h;let u:bM k x.2 y.2=bi:=by
   let(_,z)||(z,hz,q,C):=(F.ie a c).1 d
   .$(absurd z.symm<|F.ji b k)
   rw[F.iU b hz C];$q
  let v:k=0\/k=1:=by lia
  let o:x.1∈cb rs y.2 (k+2):=(F.ie b ∅).2 (τ {x,a,by let rfl||rfl:=v;$(mY.1.trans u);$(mY.2.trans u),ρ});let:=F.HE b t ∅ hm o;lia
 let(r,p,rfl):=ae.1 A;let(x,a,k,c,n,d,_,rfl):=Aa F R p;$({x.1,ae.2 ⟨x,a,ρ⟩,n,F.FO a (by rw[qU F a];$(hY.2 {k,hI.2 c,d})),yB _ _ _})
theorem UH{rs:Fl}(F:aE rs){a:bp}(R:je rs a)(all:∀x∈rs,∃p∈a,p.1=x.1)(nd:(cQ rs a).Nodup){l:List (List eS)}(nl:l.Nodup)(h:∀r,r∈l↔∃x∈rs,∃k,k<4/\∃n∈cb rs x.2 k,r=cu x.1 n k):cM l=cM (cQ rs a) :=
 uC ((iR nl nd).2 λr=>by rw[h r,wV F R all])
def zC:Sp:=λvs H Q _=>∃x n k,k<4/\vs=[.str x,.str n,.str<|az k]/\∀p,H p=am->Q (.ref p) (upd H p<|.U<|(cu x n k).map V.str)
def xk (h:c=bi)(a:A):if c=bi then A else B:=by rw[if_pos h];$a
def nQ (h:c=bn)(b:B):if c=bi then A else B:=by rw[h];$b
theorem X8{f:dn}{c:hO}(F:bb K "row_of" "row_of" CA f c):aV P w K mg base bc 1 f c ["room","name","side"] zC:=by
 $(F.ok NK (λvs H Q E h=>?_)<|λcdv A outer s H vs Q E hr h=>?_)
 .let(x,n,k,d,rfl,_):=h;rfl
 let(x,n,k,d,rfl,q):=h;let b:∀(x:eS) {j pos},xn .Eq (.Constant (.str x) j pos)=bn:=λ_=>rfl;$({_,ot (uJ (pf Am (pv 2) lQ<|b _) (mT<|nI<|pd<|bW lQ<|bW (pv 0)<|bW (pv 1) fF) uo)<|ot (uJ (pf Am (pv 2) lQ<|b _) (mT<|nI<|pd<|bW lQ<|bW (pv 0)<|bW (pv 1) fF) uo)<|ot (uJ (pf Am (pv 2) lQ<|b _) (mT<|nI<|pd<|bW lQ<|bW (pv 1)<|bW (pv 0) fF) uo)<|mT<|nI<|pd<|bW lQ<|bW (pv 1)<|bW (pv 0) fF,?_});let a:3<=sizeLine:=∅
 let e:k=0\/k=1\/k=2\/k=3:=∅
 let rfl||rfl||rfl||rfl:=e
 .$({_,ρ,ρ,_,ρ,?_});$(xk (by decide +kernel) ?_);$({_,ρ,_,ρ,a,q})
 .$({_,ρ,ρ,_,ρ,?_});$(nQ (by decide +kernel) ?_);$({_,ρ,ρ,_,ρ,?_});$(xk (by decide +kernel) ?_);$({_,ρ,_,ρ,a,q})
 .$({_,ρ,ρ,_,ρ,?_});$(nQ (by decide +kernel) ?_);$({_,ρ,ρ,_,ρ,?_});$(nQ (by decide +kernel) ?_);$({_,ρ,ρ,_,ρ,?_});$(xk (by decide +kernel) ?_);$({_,ρ,_,ρ,a,q})
 $({_,ρ,ρ,_,ρ,?_});$(nQ (by decide +kernel) ?_);$({_,ρ,ρ,_,ρ,?_});$(nQ (by decide +kernel) ?_);$({_,ρ,ρ,_,ρ,?_});$(nQ (by decide +kernel) ?_);$({_,ρ,_,ρ,a,q})
def rL(s:eS):Option Nat:=(hE 4).find? λk=>bd<|az k=s
theorem Ky{s:eS}{k:Nat}(h:rL s=al k):k<4/\az k=s:={hI.1<|z7 h,by let:=aa7 h;$$$$this}
def J5(fa:AF):UF:=λZ=>(fa Z).bind λp=>(dS p.1).bind λl=>match l with
 |[x,n,s]=>(rL s).map λk=>(cu x n k,p.2)
 |_=>am
theorem Tn{X:Cx}{e:hF}{b:List hF}{fa:AF}{p pos:u1}(h:ba X.prog X.w X.K X.mg X.base "row_of" 1 zC)(c:Gl X "row_of")(d:cF 1 X.A)(i:bD X e b)(g:(T' pos<|km b X.env).any (·.1)=bn)(m:DA X (e::b) fa):mJ X (.Call (.Name "row_of" p) (e::b) [] pos) (J5 fa):=by
 let(c,CX,k,f,fd,pn,F,d,hm,r,u,v):=h.has c d;let(t,y,q):=m;$({_,Ag F d c hm r u .nil v y ⋯ i g,λz B Z C H D l Z' Q a S k=>?_});unfold J5 at a;let(ds,Z1,E,a):=oB a;let(ls,G,a):=oA a;$$$$$a
 .ext1 x n s;let(j,I,a):=oM a;let(rfl,rfl):=sP a;let(J,rfl):=Ky I;$(q z B Z C H D ds _ _ E S λvs H1 Hi1 L M N=>?_);let O:=kL G N;$$O;$({x,n,j,J,ρ,λp R=>?_});let(T,U):=L.laid (o:=.U<|(cu x n j).map V.str) R;$(k p _ _ T (M.trans U) ?_);rw[a9,tO]
 exact nO a
end
local macro_rules | `(tactic| walk_at $s:str)=>Mq.go s "U@Tn arRrrA~0@NY arrrarVddr~Y@zi TXX"
section
variable{P:hZ}{w:nL}{K:f'}{mg:eS->Option cm}{base:nk}
theorem xS{web:bp}{rs:Fl}(e:eG web rs=bi):aE rs/\je rs web/\∀x∈rs,∃p∈web,p.1=x.1:=by
 unfold eG at e;rw[e8,e8,decide_eq_true_eq,kz]at e;let F:=(uM rs).1 e.1.1;let pm:=kh.1 e.1.2;$({F,λp b=>?_,λx a=>?_})
 .let(x,a,ex):=ae.1<|pm.mem_iff.1<|ae.2 ⟨p,b,ρ⟩;let h:=of_decide_eq_true<|e.2 p b;simp?[<-ex,we F.nd a,qU F a]at h;$({x,a,ex,λn=>?_});rw[(kh.1 h).mem_iff];$$(dH);rw[hY];$({λ⟨k,c,h⟩=>{k,hI.1 c,h},λ⟨k,c,h⟩=>{k,hI.2 c,h}})
 let(p,b,ep):=ae.1<|pm.mem_iff.2<|ae.2 ⟨x,a,ρ⟩;$(⟨p,b,ep⟩)
theorem zL{k:Nat}(hk:k<4):rL (az k)=al k:=by
 let a:k=0\/k=1\/k=2\/k=3:=by lia
 let rfl||rfl||rfl||rfl:=a<;>decide +kernel
def jB(x:eS)(t:eS×eS):List Str:=cu x t.2<|(rL t.1).getD 0
theorem CO{x:Ob}{W:Fl}{t:eS×eS}(h:t∈cP x W 4):∃k,k<4/\t.1=az k/\t.2∈(cV<|di x W k).map (·.2):=by unfold cP at h;let(k,a,h):=hY.1 h;let(p,b,rfl):=ae.1 h;$({k,hI.1 a,ρ,ae.2 ⟨p,b,ρ⟩})
theorem xT{rs:Fl}(F:aE rs){x:eS×Ob}(b:x∈rs){r:List eS}:r∈(cP x.2 (rs++dc rs) 4).map (jB x.1)↔∃k,k<4/\∃n∈cb rs x.2 k,r=cu x.1 n k:=by
 rw[ae];constructor
 .ext⟨t,d,rfl⟩;let(k,a,e,h):=CO d;rw[ve F b a]at h;$({k,a,t.2,h,?_});$$(jB);rw[e,zL a];rfl
 ext⟨k,a,n,c,rfl⟩;rw[<-ve F b a]at c;let(p,f,rfl):=ae.1 c;$({(az k,p.2),hY.2 {k,hI.2 a,ae.2 ⟨p,f,ρ⟩},?_});$$(jB);rw[zL a];rfl
def fO(us W:Fl):List (List eS):=us.flatMap λx=>(cP x.2 W 4).map (jB x.1)
theorem Hc:∀(us W:Fl),W.length<=12->(fO us W).length<=us.length*48
 |[],_,_=>nT _
 |x::l,W,h=>by let h1:=xf x.2 W 4;let:=Hc l W h;let e:fO (x::l) W=(cP x.2 W 4).map (jB x.1)++fO l W:=ρ;simp?[e,eR,a8,g8,abV];lia
theorem PZ{web:bp}{rs:Fl}(h:cK web)(e:eG web rs=bi):cM (cG<|fO rs<|rs++dc rs)=cM (cQ rs web)/\(cG<|fO rs<|rs++dc rs).length<64:=by
 let(F,R,all):=xS e;let nd:=wF F R h.nd λp c=>(h.rg p c).2.1;let(d,b):=vX<|fO rs<|rs++dc rs;let hm:∀r,r∈cG (fO rs<|rs++dc rs)↔∃x∈rs,∃k,k<4/\∃n∈cb rs x.2 k,r=cu x.1 n k:=λr=>by rw[d r];$$(fO);rw[hY];$({λ⟨x,a,h⟩=>{x,a,(xT F a).1 h},λ⟨x,a,h⟩=>{x,a,(xT F a).2 h}})
 $({UH F R all nd b hm,?_});rw[((iR b nd).2 λr=>by rw[hm r,wV F R all]).length_eq];$(DR F R nd)
theorem Fc(rs:Fl)(x:Ob)(k:Nat):∃n,n∈cb rs x k:=by
 $$(cb);split
 .$({_,kn.2 ρ})
 ext1 h;let(p,a):=aaX _ h;$({p.2,ae.2 {p,xD.2 a,ρ}})
theorem WK{d:Type}{l:List d}{a b:d}(e:a∈l)(hb:b∈l)(n:a≠b):2<=l.length:=by
 match l with
 |[]=>simp at e
 |[c]=>simp!
 |_::_::_=>simp
theorem Qj{rs:Fl}(F:aE rs):2<=(cG<|fO rs<|rs++dc rs).length:=by let(x,c):=aaX rs F.ne;let(n,f):=Fc rs x.2 0;let(m,hm):=Fc rs x.2 1;let d:=(vX<|fO rs<|rs++dc rs).1;$(WK (a:=cu x.1 n 0) (b:=cu x.1 m 1) ((d _).2 (hY.2 {x,c,(xT F c).2 {0,⋯,n,f,rfl}})) ((d _).2 (hY.2 {x,c,(xT F c).2 {1,⋯,m,hm,rfl}})) λe=>?_);let:("up":eS)="on":=(List.cons.inj e).1;$(absurd this (by decide +kernel))
theorem PX(x:eS)(t:eS×eS):jB x t≠[]:=λe=>by$$$e
theorem O3{us W:Fl}:∀r∈cG (fO us W),r≠[]:=λr a=>by let(x,_,h):=hY.1<|((vX _).1 r).1 a;let(t,_,rfl):=ae.1 h;$(PX _ _)
theorem Mk{i:Nat}{Z:DS}{l:List (List eS)}(h:Z[i]?=al (.O<|.bh false<|bw l))(b:2<=l.length)(a:l.length<64)(ne:∀r∈l,r≠[]):uK i Z=al (.O<|.L<|(cM l).map tupS,Z):=by
 let e:(bw l).map (·.1)=l:=by$$(bw);rw[eX];$(List.map_id l)
 let n:(bw l).length=l.length:=a8 _;$$(uK);rw[h];show(if 2<=(bw l).length/\(bw l).length<64/\∀k∈bw l,k.1≠[]then al (Res.O (.L ((cM ((bw l).map (·.1))).map tupS)),Z)else am)=_;rw[if_pos {n ▸ b,n ▸ a,λk c=>by let(r,d,rfl):=ae.1 c;$(ne r d)},e]
def Ip(a:dn)(fn:kZ):Prop:=∀(web:bp) (rs:Fl),cK web->fX web->gX rs->fn [.L (web.map pairD),aw rs]=al (if eG web rs=bi then .ok (.O<|.L<|(cM<|cQ rs web).map tupS)else .exc a)
theorem Xu(T:Txt mg){a:dn}(X:yQ K mg "NoFloor" a){v z:aS}(Y:ba P w K mg base "is_floor" 5 (aF K v))(s1:IC v)(q2:ba P w K mg base "all_touching" 4 (aF K z))(s2:BH z)(q3:ba P w K mg base "row_of" 1 zC){f:dn}{C:hO}(F:bb K "tinting_of" "tinting_of" B3 f C):∃fn,aV P w K mg base (fU P w) 6 f C ["web","floor"] (pC K fn)/\Ip a fn:=by
 $$$(Rz F J7 (n:=2) ρ ?hb ?B)
 case hb=>ext cdv A outer s H E hr;let nd:=J7.nd;$$$T;let fz:jF "touched":=⟨trivial⟩;let hl:sv "touched":=⟨trivial⟩;let tp:lT "rows":=⟨trivial⟩;$("X")
 clear T F Y q2 q3 X;ext web rs h hw ok;let q:=s1 web rs h hw ok;$$$(K4 ρ ?w);show WS _ [.D (.L<|web.map pairD),.D<|aw rs,.no,.no,.no,.no,.no] _;ext(g:eG web rs=bi)
 case neg =>
  rw[if_neg g];let g:eG web rs=bn:=by$$$$g
  rw[g]at q;$(ah<|qA (i9<|fw (ag (aC (aa ρ<|aa ρ ak) q) ρ) ρ) ρ<|ah<|Ka (aa ρ ak) (by show 1<=c6;$$(c6);decide)<|τ ⟨_,_,ρ,ρ⟩)
 rw[if_pos g];rw[g]at q;$(dY (i9<|fw (ag (aC (aa ρ<|aa ρ ak) q) ρ) ρ) ρ ?_);let fl:=(xS g).1.Fx;let D:=s2 rs fl.ne ok.bI fl.nd fl.th;let(G,I):=PZ h g;let J:=Qj (xS g).1;obtain⟨W,M⟩:∃W,W=rs++dc rs:={_,ρ};rw[<-M]at D G I J;let lW:W.length<=12:=by
  let h4:W.length=rs.length+4:=by rw[M,eR];rfl
  let:=fl.bI;lia
 generalize hWb:Dat.L (web.map pairD)=l;generalize hR:aw rs=R at *;$$$(ah<|tN<|aN (r:=.D<|.cN<|cD rs W) (Z1:=[.D l,.D R,.no,.no,.no,.no,.no]) (Z2:=[.D l,.D R,.D<|.cN<|cD rs W,.no,.no,.no,.no]) ?c ρ<|vN<|aq ?d)
 case c=>$$(nF);rw[aC (aa ρ ak) D];rfl
 $$$(ah<|tN<|aN (Z2:=[.D l,.D R,.D<|.cN<|cD rs W,.O<|.bh false<|bw<|cG [],.no,.no,.no]) ρ ρ<|vN<|aq ?_);$$$(ah<|tN<|dD (λk Z=>∃u b e,Fr u/\Fr b/\Fr e/\Z=[.D l,.D R,.D<|.cN<|cD rs W,.O<|.bh false<|bw<|cG<|fO (rs.take k) W,u,b,e]) ρ ⟨_,_,_,ι ρ,ι ρ,ι ρ,ρ⟩ ?st ?N)
 case N=>ext _ ⟨u,b,e,_,_,_,rfl⟩;rw[a8,show(cD rs W).length=rs.length from a8 ..,lq];$(vN<|aq<|ah<|tN<|bY (Mk ρ J I O3)<|JH<|eB<|ι ⟨_,_,ρ,?_⟩);rw[G]
 ext k y m _ ⟨u,b,e,f4,o,p,rfl⟩;unfold cD at m;rw[eX,dk]at m;let(x,ex,rfl):=ft.1 m;let hx:=eH ex;let O:=(cn.1 ex).1;let lk:=Hc (rs.take k) W lW;rw[iW]at lk;let lt:=xf x.2 W 4;let bI:=fl.bI;$({[.D l,.D R,.D<|.cN<|cD rs W,.O<|.bh false<|bw<|cG<|fO (rs.take k) W,.D<|.str x.1,b,e],by let rfl||(d,rfl):=f4<;>rfl,?_});let eg:df (cD rs W) x.1=al (.L<|(cP x.2 W 4).map jc):=Ee fl.nd hx;$$$(ah<|dD (λj Z=>∃b e,Fr b/\Fr e/\Z=[.D l,.D R,.D<|.cN<|cD rs W,.O<|.bh false<|bw<|cG<|fO (rs.take k) W++((cP x.2 W 4).take j).map (jB x.1),.D<|.str x.1,b,e]) (bP<|kX ρ ρ eg) ⟨_,_,o,p,by simp?[abc,abS,nS]⟩ ?Q ?fin2)
 case fin2=>ext _ ⟨b,e,o,p,rfl⟩;$(aq<|aP ⟨.D<|.str x.1,b,e,τ ⟨_,ρ⟩,o,p,?_⟩);rw[eC ex,show fO (rs.take k++[x]) W=fO (rs.take k) W++(cP x.2 W 4).map (jB x.1)from by$$(fO);simp,a8,lq]
 ext j y m _ ⟨b,e,o,p,rfl⟩;rw[dk]at m;let(t,S,rfl):=ft.1 m;let(i,hi,ei,_):=CO<|eH S;generalize U:cG (fO (rs.take k) W++((cP x.2 W 4).take j).map (jB x.1))=L;let V:L.length<1000:=by rw[<-U];$(xr (yu _) ?_);simp?[eR,a8,iW];lia
 $({[.D l,.D R,.D<|.cN<|cD rs W,.O<|.bh false<|bw L,.D<|.str x.1,.D<|.str t.1,.D<|.str t.2],by let rfl||(d,rfl):=o<;>let rfl||(d,rfl):=p<;>rfl,?_});$(ah {_,yR (k:=jB x.1 t) ρ ?O ρ V,aq<|aP ⟨.D<|.str t.1,.D<|.str t.2,τ ⟨_,ρ⟩,τ ⟨_,ρ⟩,?_⟩})
 case O=>show(rL t.1).map (λk=>(cu x.1 t.2 k,_))=_;dsimp[jB];rw[ei,zL hi];rfl
 rw[eC S,fv,<-pw];show _=[_,_,_,Slot.O<|.bh false<|bw<|cG<|_++[_],_,_,_];rw[AD,U];rfl
def ml(rs:Fl):List (eS×Dat):=rs.map λy=>(y.1,ai y)
theorem Nu (nd:(rs.map (·.1)).Nodup):tq [.L (rs.map λy=>.U [.str y.1,ai y])]=al (.O<|.bK<|ml rs):=by
 let:∀l:Fl,k9 (l.map λy=>.U [.str y.1,ai y])=al (ml l):=by
  ext l;induction l with
  |nil=>rfl
  |cons p l a=>show(k9 (l.map λy=>.U [.str y.1,ai y])).map _=_;rw[a];rfl
 show(k9 (rs.map λy=>.U [.str y.1,ai y])).bind _=_;rw[this];$(if_pos ?_);delta ml;rw[eX];$nd
theorem Lv{rs:Fl}(nd:(rs.map (·.1)).Nodup){y:eS×Ob}(a:y∈rs):cT (.bK<|ml rs) (.str y.1)=al (ai y):=by show df (ml rs) y.1=_;delta df ml;rw[agk];show((rs.find? λq=>bd<|q.1=y.1).map _).map _=_;rw[yh nd a];rfl
theorem Jb{n:eS}(b:bj n){i j:Nat}(c:i<4)(d:j<4):ij false (.str n) (.L [.str (az i),.str<|az j])=al (.D<|.bl<|bd<|n=az i\/n=az j):=by
 $((qK (ns:=[az i,az j]) (λy a=>by
  simp?[eW,gW,or_false]at a;let rfl||rfl:=a
  .$(o8 _<|oK c)
  $(o8 _<|oK d)) b false).trans ?_)
 let:bd (n∈[az i,az j])=bd (n=az i\/n=az j):=decide_eq_decide.2 ⋯;rw[<-this];rfl
def Fj (a:j<4)(b:k<4):dN false (.str<|az j) (.str<|az k)=al (.D<|.bl<|bd<|j=k):=by rw[wQ (o8 _<|oK a).ok (o8 _<|oK b).ok];let:bd (az j=az k)=bd (j=k):=decide_eq_decide.2 {qL a b,λe=>by rw[e]};rw[this]
theorem Uh{rs:Fl}{a:bp}:∀r∈cQ rs a,r≠[]:=λr b e=>by
 $$e;let(p,_,h):=hY.1 b;let(n,_,h):=pz.1 h;unfold fL at h
 repeat' $$$$$h
 all_goals simp[cu]at h
def Dj(fn:aS):Prop:=∀(rs:Fl) (a:bp),aE rs->cK a->je rs a->fn [.L (a.map pairD),aw rs]=al (.O<|.L<|(cM<|cQ rs a).map tupS)
def L5(T:Txt mg)(F:bb K "_law_tinting" "_law_tinting" zM f fd):∃fn,aV P w K mg base bc 1 f fd ["_law_web_here","_law_floor_here"] (aF K fn)/\Dj fn:=by
 $$$(bX F Jq (n:=2) ρ ?hb ?U)
 case hb=>let nd:=Jq.nd;let sx:B9 "_law_found":=⟨trivial⟩;$("h")
 clear T F;ext rs a F h V;let f8:=F.bI;let c:2<=sizeLine:=by delta c6;decide
 let v:3<=sizeLine:=by delta c6;decide
 let sr:rs.length<=sizeLine:=by delta c6;lia
 let nd:=wF F V h.nd λp M=>(h.rg p M).2.1;let S:=DR F V nd;$$$(cE ρ ?w);show WS _ [.D (.L<|a.map pairD),.D<|aw rs,.no,.no,.no,.no,.no] _;$$$(ah<|aN (Z2:=[.D (.L<|a.map pairD),.D<|aw rs,.O<|.bK<|ml rs,.no,.no,.no,.no]) (aC (aa (ag (cX (enc:=ai) (xs:=rs) (λy=>[.no,.D<|ai y]) (λy=>.U [.str y.1,ai y]) (bP ρ) ρ sr ?a1 ?I<|λ_ _=>rfl) ρ) ak)<|Nu F.nd) ρ<|aq ?a3)
 case a1=>ext y _ Z (rfl|⟨z,rfl⟩)<;>rfl
 case I=>ext y B;$(dW (aa (aY ρ ρ ρ ρ)<|aa ρ ak) c)
 let kg:=λy B=>Lv F.nd (y:=y) B;generalize Dat.bK (ml rs)=D at *;generalize hW:Dat.L (a.map pairD)=W;generalize hR:aw rs=R;$$$(ah<|aN (Z2:=[.D W,.D R,.O D,.O<|.L [],.no,.no,.no]) (ck ak<|nT _) ρ<|aq ?_);$$$(ah<|dD (ds:=a.map pairD) (λk Z=>∃N O g,Fr N/\Fr O/\Fr g/\Z=[.D W,.D R,.O D,.O<|.L<|(cQ rs<|a.take k).map tupS,N,O,g]) (by rw[<-hW];$(bP ρ)) ⟨_,_,_,ι ρ,ι ρ,ι ρ,ρ⟩ ?st ?fin)
 case fin =>
  ext _ ⟨N,O,g,f4,f5,C,rfl⟩;rw[a8,lq];let e2:nz [.L ((cQ rs a).map tupS)]=al (.O<|.L<|(cM<|cQ rs a).map tupS):=by show(kr<|(cQ rs a).map tupS).bind _=_;rw[wX Uh];$(if_pos ⟨nd,S⟩)
  $(aq<|ah<|bY (aC (aa ρ ak) e2)<|eB ⟨_,ρ⟩)
 ext k d hd _ ⟨N,O,g,f4,f5,C,rfl⟩;rw[dk]at hd;let(p,ep,rfl):=ft.1 hd;let M:=eH ep;let(x,X,Y,tu):=V p M;let kx:=kg x X;let gx:=pT F.nd X;rw[Y]at gx;let tr:∀n∈p.2,bj n:=λn Q=>h.txt ((h.rg p M).2.2 n Q).1;let et:cQ rs (a.take<|k+1)=cQ rs (a.take k)++p.2.filterMap (fL rs x):=by rw[eC ep];delta cQ;rw[aa0];simp[gx]
 let pre:(cQ rs<|a.take<|k+1).length<=64:=by
  $(n5 ?_<|aaV S);let:cQ rs a=cQ rs (a.take<|k+1)++cQ rs (a.drop<|k+1):=by delta cQ;rw[<-aa0,R']
  simp?[this,eR];lia
 rw[et,eR]at pre;rw[et];generalize cQ rs (a.take k)=u at *;$({[.D W,.D R,.O D,.O<|.L<|u.map tupS,.D<|.str p.1,.D<|.L<|p.2.map .str,g],by let rfl||(d,rfl):=f4<;>let rfl||(d,rfl):=f5<;>rfl,?_});$$$(ah<|dD (λj Z=>∃g,Fr g/\Z=[.D W,.D R,.O D,.O<|.L<|(u++(p.2.take j).filterMap (fL rs x)).map tupS,.D<|.str p.1,.D<|.L<|p.2.map .str,g]) (bP ρ) ⟨_,C,⋯⟩ ?st2 ?fin2)
 case fin2=>ext _ ⟨g,C,rfl⟩;rw[a8,lq];$(aq<|aP ⟨_,_,_,τ ⟨.str p.1,ρ⟩,τ ⟨.L<|p.2.map .str,ρ⟩,C,ρ⟩)
 ext j d hd _ ⟨g,C,rfl⟩;rw[dk]at hd;let(n,en,rfl):=ft.1 hd;let Q:=eH en;let tn:=tr n Q;let G:((u++(p.2.take j).filterMap (fL rs x)).map tupS).length<sizeLine:=by simp?[a8,eR];let:((p.2.take j).filterMap (fL rs x)).length<=(p.2.filterMap<|fL rs x).length:=(ahP _<|abd _ _).length_le;delta c6;lia
 simp?[eC en,List.filterMap_append,<-pw,show[n].filterMap (fL rs x)=(fL rs x n).toList by cases e:fL rs x n<;>simp[e]];generalize u++(p.2.take j).filterMap (fL rs x)=I at *;$({[.D W,.D R,.O D,.O<|.L<|I.map tupS,.D<|.str p.1,.D<|.L<|p.2.map .str,.D<|.str n],by let rfl||(d,rfl):=C<;>rfl,?_});let done:∀r,fL rs x n=al r->∃g,Fr g/\[.D W,.D R,.O D,.O<|.L<|I.map tupS++[tupS r],.D<|.str p.1,.D<|.L<|p.2.map .str,.D<|.str n]=[.D W,.D R,.O D,.O<|.L<|(I++(fL rs x n).toList).map tupS,.D<|.str p.1,.D<|.L<|p.2.map .str,g]:=λr e=>{_,τ {.str n,ρ},by rw[e,fv];rfl};let o:=Jb tn (show 0<4 by decide) (show 1<4 by decide);let J:=Jb tn (show 2<4 by decide) (show 3<4 by decide);let(k0,m,hs):=(tu n).1 Q;let rf:=qI F X m hs;let rfl||(y,B,sq,rfl):=rK hs
 .let L:=done _ (rf.elim (λz=>z.2) λz=>absurd (τ ⟨k0,m,ρ⟩) z.1);rw[Y]at L;let q1:=Fj m (show 1<4 by decide);let q3:=Fj m (show 3<4 by decide);let hk:k0=0\/k0=1\/k0=2\/k0=3:=by lia
  let dw:∀{i j:Nat},i<4->j<4->(bd<|az k0=az i\/az k0=az j)=bd (k0=i\/k0=j):=λhi hj=>decide_eq_decide.2 {λz=>z.imp (qL m hi)<|qL m hj,λz=>z.imp (λe=>by rw[e])<|λe=>by rw[e]};rw[dw ⋯ ⋯]at o J;clear dw done rf hs tu tr;let rfl||rfl||rfl||rfl:=hk
  .refine ah<|qA (bL<|ay ρ (ag (ck (aa ρ<|aa ρ ak) c) ρ) o) ρ<|ah<|gn (gZ (d:=tupS<|cu p.1 (az 0) 0) ρ (aa (dW (aa (ki (ag (ck (aa ρ<|aa ρ ak) c) ρ) (ag (aC (aa (ag (ay ρ ρ q1) ρ) ak) ρ) ρ) ρ)<|aa ρ<|aa ρ ak) v) ak) G)<|aq<|aP<|aq<|aP L
  .refine ah<|qA (bL<|ay ρ (ag (ck (aa ρ<|aa ρ ak) c) ρ) o) ρ<|ah<|gn (gZ (d:=tupS<|cu p.1 (az 1) 1) ρ (aa (dW (aa (ki (ag (ck (aa ρ<|aa ρ ak) c) ρ) (ag (aC (aa (ag (ay ρ ρ q1) ρ) ak) ρ) ρ) ρ)<|aa ρ<|aa ρ ak) v) ak) G)<|aq<|aP<|aq<|aP L
  .refine ah<|wu (bL<|ay ρ (ag (ck (aa ρ<|aa ρ ak) c) ρ) o) ρ<|ah<|qA (bL<|ay ρ (ag (ck (aa ρ<|aa ρ ak) c) ρ) J) ρ<|ah<|gn (gZ (d:=tupS<|cu p.1 (az 2) 2) ρ (aa (dW (aa (ki (ag (ck (aa ρ<|aa ρ ak) c) ρ) (ag (aC (aa (ag (ay ρ ρ q3) ρ) ak) ρ) ρ) ρ)<|aa ρ<|aa ρ ak) v) ak) G)<|aq<|aP<|aq<|aP<|aq<|aP L
  refine ah<|wu (bL<|ay ρ (ag (ck (aa ρ<|aa ρ ak) c) ρ) o) ρ<|ah<|qA (bL<|ay ρ (ag (ck (aa ρ<|aa ρ ak) c) ρ) J) ρ<|ah<|gn (gZ (d:=tupS<|cu p.1 (az 3) 3) ρ (aa (dW (aa (ki (ag (ck (aa ρ<|aa ρ ak) c) ρ) (ag (aC (aa (ag (ay ρ ρ q3) ρ) ak) ρ) ρ) ρ)<|aa ρ<|aa ρ ak) v) ak) G)<|aq<|aP<|aq<|aP<|aq<|aP L
 let nw:∀j,y.1≠az j:=λj e=>F.ji B j e.symm;rw[decide_eq_false (λz=>z.elim (nw 0)<|nw 1)]at o;rw[decide_eq_false (λz=>z.elim (nw 2)<|nw 3)]at J;let ky:=kg y B;let ly:=CL F (x:=x) B;rw[Y]at kx ly;rw[ly]at done ⊢;$(ah<|wu (bL<|ay ρ (ag (ck (aa ρ<|aa ρ ak) c) ρ) o) ρ<|ah<|wu (bL<|ay ρ (ag (ck (aa ρ<|aa ρ ak) c) ρ) J) ρ<|ah<|eI (b:=bd<|x.2.t=y.2.b) (bL<|ay (ki (aY ρ ρ ρ kx) ρ ρ) (ki (aY ρ ρ ρ ky) ρ ρ)<|eq_int _ _) (λz=>?_)<|λz=>?_)
 .let z:=of_decide_eq_true z;rw[if_pos z]at done ⊢;$(ah<|gn (gZ (d:=tupS<|cu p.1 y.1 0) ρ (aa (dW (aa ρ<|aa ρ<|aa ρ ak) v) ak) G)<|aq<|aP<|aq<|aP<|aq<|aP<|aq<|aP<|done _ ρ)
 let z:=of_decide_eq_false z;rw[if_neg z]at done ⊢;$(ah<|eI (b:=bd<|x.2.r=y.2.l) (bL<|ay (ki (aY ρ ρ ρ kx) ρ ρ) (ki (aY ρ ρ ρ ky) ρ ρ)<|eq_int _ _) (λq=>?_)<|λq=>?_)
 .let q:=of_decide_eq_true q;rw[if_pos q]at done ⊢;$(ah<|gn (gZ (d:=tupS<|cu p.1 y.1 1) ρ (aa (dW (aa ρ<|aa ρ<|aa ρ ak) v) ak) G)<|aq<|aP<|aq<|aP<|aq<|aP<|aq<|aP<|aq<|aP<|done _ ρ)
 let q:=of_decide_eq_false q;rw[if_neg q];$(aP<|aq<|aP<|aq<|aP<|aq<|aP<|aq<|aP ⟨_,τ ⟨.str y.1,ρ⟩,by simp?[Option.toList_none,nS]⟩)
def pP(fn:kZ)(a:dn):aS:=λds=>@ite _ (ds.length=2/\fn ds=al (.exc a)) (Classical.propDecidable _) (al<|.D<|.bl true) am
theorem Pz{X:Cx}{c:St}{cls:cm}{a:dn}{H:Hp}(h:H a=am->pG X c cls a H):pG X c cls a H:=λb s I F=>h F.na b s I F
theorem M7{L a k l m n q t x:dn}{j:kZ}(T:mg "TouchError"=al (.ref L))(hR:ahc K (.ref a) (.ref L)=al true)(y:mg "isinstance"=am)(mW:mg "NoFloor"=al (.ref a))(mV:mg "ValueError"=am)(M:lF K a)(hW:aak K (.ref a) (.ref a)=al true)(hV:aak K (.ref a) (.type "ValueError")=al true)
 (m1:mg "NoCut"=al (.ref k))(m2:mg "NoName"=al (.ref l))(m3:mg "NoRoom"=al (.ref m))(m4:mg "NoText"=al (.ref n))(m5:mg "NoTinting"=al (.ref q))(m6:mg "NoWeb"=al (.ref t))(m7:mg "Twice"=al (.ref x))
 (hN:afx K (.ref a) [.ref k,.ref l,.ref m,.ref n,.ref q,.ref t,.ref x]=al false)(q1:wO P w K mg base "tinting_of" 6 (pC K j))
 {f:dn}{U:hO}(F:bb K "_law_refused" "_law_refused" zQ f U):aV P w K mg base bc 7 f U ["_law_web_here","_law_rows"] (aF K<|pP j a):=by
 let(f1,fd1,pn1,F1,X,Y,b1):=q1.is;let key:∀{ds r},pP j a ds=al r->(ds.length=2/\j ds=al (.exc a))/\r=.D (.bl true):=λ{ds r} e=>by
  unfold pP at e;ext(z:ds.length=2/\j ds=al (.exc a))
  .rw[if_pos z]at e;$({z,(Option.some.inj e).symm})
  rw[if_neg z]at e;$(nO e)
 $(F.ok IE (λvs H Q E h=>?_)<|λcdv A outer s H vs Q E hr h=>?_)
 .let(G,ds,r,sm,I,e,_):=h;rw[I.length];$((key e).1.1)
 let(G,ds,r,sm,I,e,kQ):=h;let((hl,e1),rfl):=key e;let nd:=IE.nd;obtain⟨B,D,rfl⟩:∃B D,ds=[B,D]:=by
  match ds,hl with
  |[B,D],_=>$(⟨B,D,ρ⟩)
 let Z:=I;let(v0,vr,rfl,rv0,N):=I;let(v1,vr,rfl,rv,N):=N;$$N;$({_,ot (Ct (i:=2) nd ρ (adT ρ) Dn)<|ot (Xh<|λpn Ex=>mT<|E9<|Tb F1 hr ρ X Y b1 ρ<|bW (pv 0)<|bW (pv 1) fF)<|ot (uJ (Vy<|kD Rv ρ y (by decide +kernel)<|bW (pv 2)<|bW (pd<|bW (ko ρ m1 (v:=.ref k) ρ)<|bW (ko ρ m2 (v:=.ref l) ρ)<|bW (ko ρ m3 (v:=.ref m) ρ)<|bW (ko ρ m4 (v:=.ref n) ρ)<|bW (ko ρ m5 (v:=.ref q) ρ)<|bW (ko ρ m6 (v:=.ref t) ρ)<|bW (ko ρ m7 (v:=.ref x) ρ) fF) fF) (mT<|nI C6) uo)<|mT<|nI<|VM (kD (E5 abN.ga) ρ y (by decide +kernel)<|bW (pv 2)<|bW (ko ρ mW (v:=.ref a) ρ) fF)<|Eh<|kD (E5 abN.ga) ρ y (by decide +kernel)<|bW (pv 2)<|bW (yz (v:=.ty "ValueError") (u:=.type "ValueError") ρ mV (by decide +kernel) ρ) fF,?_});ext pins;$(⟨_,ρ,_,ρ,λcls c g=>∃d,cls=.ref a/\aj H g/\aj G d/\aj d g/\(∀b o,d b=al o->iB G H b o),{G,[B,D],.exc a,sm,Z,e1,λa g d k1 k2 k3 O=>⟨d,ρ,k1,k2,k3,O⟩},?_⟩);ext cls c g ⟨d,rfl,k1,k2,k3,O⟩;$(Pz λYA=>?_);$(Ut (i:=3) (C:=L) nd ρ ρ ρ ρ ρ ρ T hR (λv=>mT<|Ct (i:=2) nd ρ (adT ρ)<|pv 3) ?_);$({_,ρ,_,ρ,by show 7<=c6;$$(c6);decide,λp R=>?_});let s1:aj g (upd g c<|excAt c<|.ref a):=jr YA;let YC:p≠c:=λz=>by rw[z,a9]at R;$$$R
 let S:upd (upd g c<|excAt c<|.ref a) p (.U<|[k,l,m,n,q,t,x].map V.ref) c=al (excAt c<|.ref a):=by rw[aA YC.symm];$a9
 $({a,c,p,[k,l,m,n,q,t,x],false,ρ,a9,S,M,hN,_,ρ,?_});$(nQ ρ ?_);let J:aj (upd g c<|excAt c<|.ref a) (upd (upd g c<|excAt c<|.ref a) p<|.U<|[k,l,m,n,q,t,x].map V.ref):=jr R;$({_,ρ,_,a,.ref c,.ref a,.ref a,true,ρ,ρ,aj.refl _,⟨c,ρ,S⟩,M,hW,true,ρ,xk ρ ?_});$({_,ρ,_,a,.ref c,.ty "ValueError",.type "ValueError",true,ρ,ρ,aj.refl _,⟨c,ρ,S⟩,M,hV,?_});$(kQ _ _ d (k1.trans<|s1.trans J) k2 (k3.trans<|s1.trans J) O ρ)
theorem Ld{web:bp}{us:Fl}(h:cK web)(G:aE us)(pn:(web.map (·.1)).Perm (us.map (·.1)))(R:je us web):eG web us=bi:=by$$(eG);simp?[(uM _).2 G,decide_eq_true<|kh.2 pn,abz,abz,kz];ext p c;let(x,a,e,d):=R p c;simp?[<-e,we G.nd a,decide_eq_true_eq,kh,qU G a];$((iR (h.rg p c).2.1 (G.u4 a)).2 λn=>?_);rw[d n];$$(dH);rw[hY];$({λ⟨k,b,h⟩=>{k,hI.2 b,h},λ⟨k,b,h⟩=>{k,hI.1 b,h}})
theorem Sw{rs:Fl}{c:bp}(t:tf (mw rs) c):je rs c:=λp d=>by
 let(q,f,e,g):=t.2 p d;let(x,i,rfl):=ae.1 f;$({x,i,e,λn=>?_});let(A,B,a,j):=g;let:n∈p.2↔n∈dH rs x.2 4:=by let a:dH rs x.2 4=A++B:=a;rw[a,j,eK,eK,or_comm]
 rw[this];$$(dH);rw[hY];$({λ⟨k,b,h⟩=>{k,hI.1 b,h},λ⟨k,b,h⟩=>{k,hI.2 b,h}})
def AS(rs us:Fl):Prop:=∀x∈rs,∃y∈us,y.1=x.1/\∀k,k<4->∀n,n∈cb us y.2 k↔n∈cb rs x.2 k
theorem Dq{rs us:Fl}{b:bp}(F:aE rs)(G:aE us)(h:cK b)(pn:(b.map (·.1)).Perm (rs.map (·.1)))(pm:(us.map (·.1)).Perm (rs.map (·.1)))(R:je rs b)(S:AS rs us):eG b us=bi/\cM (cQ us b)=cM (cQ rs b):=by
 let i:je us b:=λp j=>by let(x,c,e,m):=R p j;let(y,g,d,f):=S x c;$({y,g,d.trans e,λn=>(m n).trans {λ⟨k,a,z⟩=>{k,a,(f k a n).2 z},λ⟨k,a,z⟩=>{k,a,(f k a n).1 z}}})
 let all:∀{vs:Fl},(vs.map (·.1)).Perm (rs.map (·.1))->∀x∈vs,∃p∈b,p.1=x.1:=λq x c=>ae.1<|(q.trans pn.symm).mem_iff.1 (ae.2 ⟨x,c,ρ⟩);let o:∀p∈b,p.2.Nodup:=λp j=>(h.rg p j).2.1;$({Ld h G (pn.trans pm.symm) i,uC ((iR (wF G i h.nd o)<|wF F R h.nd o).2 λr=>?_)});rw[wV G i (all pm),wV F R<|all<|.refl _];constructor
 .ext⟨y,g,k,a,n,l,rfl⟩;let(x,c,e):=ae.1<|pm.mem_iff.1<|ae.2 ⟨y,g,ρ⟩;let(z,hz,d,f):=S x c;let:=G.iU hz g<|d.trans e;$$this;$({x,c,k,a,n,(f k a n).1 l,by rw[d]})
 ext⟨x,c,k,a,n,l,rfl⟩;let(z,hz,d,f):=S x c;$({z,hz,k,a,n,(f k a n).2 l,by rw[d]})
def Gi (h:l≠[]):fI l.reverse=fI l:=wZ (λx a=>rM<|P'.1 a)<|P'.2<|oE h
def aE.oX (F:aE rs):bB rs.reverse=bB rs/\bH rs.reverse=bH rs:=by delta bB bH;rw[aaQ,aaQ];$({Gi λz=>F.ne<|tz.1 z,Gi λz=>F.ne<|tz.1 z})
def aE.rev (F:aE rs):aE rs.reverse where
 ne:=λz=>F.ne<|List.reverse_eq_nil_iff.1 z
 bI:=by rw[z3];$F.bI
 nm:=λx a=>F.nm x<|P'.1 a
 row:=λx a=>F.row x<|P'.1 a
 nd:=by rw[aaQ];$((adm _).nodup_iff.2 F.nd)
 ap:=aeO.2 (F.ap.imp λh=>by grind [Apart])
 ar:=by simp?[F.oX.1,F.oX.2,<-F.ar];simp[eZ]
theorem aE.Yk{rs:Fl}(F:aE rs):AS rs rs.reverse:=λx b=>by
 let a:=P'.2 b;$({x,a,ρ,λk c n=>?_});rw[F.rev.ie a c,F.ie b c];let d:fy rs.reverse x.2 k↔fy rs x.2 k:=by$$(fy);rw[F.oX.1,F.oX.2]
 simp?[d,P']
theorem aE.Om{rs:Fl}(F:aE rs){c:Int}(g:0<c):aE (rs.map λy=>(y.1,gO c y.2))/\AS rs (rs.map λy=>(y.1,gO c y.2)):=by
 let lt:∀{a b:Int},c*a<c*b↔a<b:=Int.mul_lt_mul_left g;let le:∀{a b:Int},c*a<=c*b↔a<=b:=Int.mul_le_mul_left g;let eq:∀{a b:Int},c*a=c*b↔a=b:=Int.mul_eq_mul_left_iff ∅;let o:rs.map (λx=>x.2.r)≠[]:=λe=>F.ne<|tz.1 e;let p:rs.map (λx=>x.2.t)≠[]:=λe=>F.ne<|tz.1 e;let h:bB (rs.map λy=>(y.1,gO c y.2))=c*bB rs:=by let:=IA o (c:=c) ∅;rw[eX]at this;$$(bB);simp?[<-this,eX];rfl
 let i:bH (rs.map λy=>(y.1,gO c y.2))=c*bH rs:=by let:=IA p (c:=c) (by lia);rw[eX]at this;$$(bH);simp?[<-this,eX];rfl
 let G:aE (rs.map λy=>(y.1,gO c y.2)):=by
  refine{λe=>F.ne<|tz.1 e,by rw[a8];$F.bI,λx d=>?_,λx d=>?_,by rw[E7];$F.nd,F.OS λx y a=>?_,?_}
  .let(y,f,rfl):=ae.1 d;$(F.nm y f)
  .let(y,f,rfl):=ae.1 d;let a:=F.row y f;$({agE ∅ a.1,lt.2 a.2.1,agE ∅ a.2.2.1,lt.2 a.2.2.2})
  .dsimp[Apart,gO]at *;simp?[le];$a
  let s:eZ (rs.map λy=>(y.1,gO c y.2))=(c*c)*eZ rs:=by$$(eZ);rw[<-CN,eX];$(OR λx _=>?_);show(c*x.2.r-c*x.2.l)*(c*x.2.t-c*x.2.b)=c*c*((x.2.r-x.2.l)*(x.2.t-x.2.b));grind
  simp?[s,F.ar,h,i];grind
 refine{G,λx d=>{(x.1,gO c x.2),ae.2 ⟨x,d,ρ⟩,ρ,λk j n=>?_}};simp?[G.ie (ae.2 ⟨x,d,ρ⟩) j,F.ie d j];let u:fy (rs.map λy=>(y.1,gO c y.2)) (gO c x.2) k↔fy rs x.2 k:=by
  unfold fy;rw[h,i];let z:∀{a:Int},c*a=0↔a=0:=λ{a}=>by let:=@eq a 0;rwa[Int.mul_zero]at this
  split
  .exact eq
  split
  .exact eq
  split
  .exact z
  exact z
 let m:∀y:Ob,bM k (gO c x.2) (gO c y)=bM k x.2 y:=λy=>by
  let v:k=0\/k=1\/k=2\/k=3:=by lia
  rw[ph];let rfl||rfl||rfl||rfl:=v<;>simp?[L8,KN,VZ,Xo,gO,lt,eq]
 rw[u];$(or_congr Iff.rfl {?_,?_})
 .ext⟨z,hz,q,rfl⟩;let(y,f,rfl):=ae.1 hz;$({y,f,(m y.2).symm.trans q,ρ})
 ext⟨y,f,q,rfl⟩;$({_,ae.2 ⟨y,f,ρ⟩,(m y.2).trans q,ρ})
end
local macro_rules | `(tactic| walk_at $s:str)=>Mq.go s "1@UO arararVddr~T@SN airVddrVdd~Z@Kz rVddrrr"
section
variable{P:hZ}{w:nL}{K:f'}{mg:eS->Option cm}{base:nk}
def D4(fn:aS):Prop:=∀ns:List Int,ns.length<=63->(∀n∈ns,kY n)->fn [.bQ ns]=al (.D<|.bl true)
def UT (h:f Z=al (d,Z1))(h1:g Z1=al (d',Z2))(h2:op d d'=am):cI op f g Z=am:=by simp![cI]
def Uz (a:f Z=al (.L xs,Z1))(b:g Z1=al (.int (n:Int),Z2))(c:xs.length<=1000)(hn:n<=2):alt (cI (fP eA λi j=>.int<|i*j) f g) (cI vd f g) Z=al (.O<|.L (nE n xs).flatten,Z2) :=
 qd (UT a b ρ) (ay a b<|if_pos ⟨⋯,⋯,c⟩)
theorem rep1 (f:a->b)(x:a):∀n:Nat,(nE n [f x]).flatten=(nE n x).map f
 |0=>rfl
 |n+1=>⋯
def Oq{b:Type}{xs:List b}{a:Nat}(h:a<xs.length):cutD xs (al 1) (al (a:Int))=(xs.drop 1).take (a-1):=by$$(cutD);simp?[show(1:Int)=((1:Nat):Int)from ρ,xQ,xQ,agj<|aaV h,agj (show 1<=xs.length by lia)]
def RI (hf:f Z=al (d,Z1))(h1:g Z1=al (.int i,Z2))(h2:h Z2=al (.int j,a))(h3:fQ d (al i) (al j)=al r):jH f (jT g) (jT h) Z=al (r,a):=by simp![jH,jT]
def Bv(x):fQ (ai x) (al 1) am=al (.D<|.U [.int x.2.l,.int x.2.b,.int x.2.r,.int x.2.t]):=ρ
theorem P6{i j:Nat}{Z:DS}{l:List (List eS)}(b:(Z[i]?).bind iE=al (.L<|l.map tupS))(c:(Z[j]?).bind iE=al (.L<|l.map tupS))(h:∀f∈l,∀x∈f,bj x):vh i j Z=al (.D<|.bl false,Z):=by
 let a:∀{i},(Z[i]?).bind iE=al (.L<|l.map tupS)->nA i Z=al (l.map tupS):=λe=>by$$(nA);rw[e];rfl
 let e:dm (.L<|l.map tupS) (.L<|l.map tupS)=bi:=by rw[mM,wL,decide_eq_true ρ]
 unfold vh;rw[a b,a c];show(if(bU (.L<|l.map tupS)&&bU (.L<|l.map tupS))=bi then al (Res.D<|.bl<|!dm (.L<|l.map tupS) (.L<|l.map tupS),Z)else am)=_;rw[sk h,e];rfl
theorem EI{rs us:Fl}(ok:gX rs)(hl:us.length<=50)(h:∀z∈us,(∃x∈rs,z.1=x.1)/\∃y∈rs,z.2=y.2):gX us:=⟨λz hz=>by
 let((x,a,e),_):=h z hz;rw[e];$(ok.tx x a),λz hz=>by
 let(_,y,b,e):=h z hz;rw[e];$(ok.nu y b),hl⟩
theorem Fi{rs:Fl}{b:bp}(F:aE rs)(ok:gX rs)(h:cK b)(R:je rs b):∀f∈cM (cQ rs b),∀x∈f,bj x:=λf a x c=>by
 let a:f∈cQ rs b:=(gk _ _).mem_iff.1 a;let(p,g,a):=hY.1 a;let(n,i,a):=pz.1 a;let(y,d,e,j):=R p g;let(k,l,hs):=(j n).1 i;rw[<-e,pT F.nd d]at a;let tn:=h.txt ((h.rg p g).2.2 n i).1;let ty:=ok.tx y d;let t0:bj "up":={by decide +kernel,by decide +kernel};let t1:bj "on":={by decide +kernel,by decide +kernel};let(_,z)||(_,z):=qI F d l hs
 .let rfl:=Option.some.inj<|z.symm.trans a;unfold cu at c;simp?[eW,gW,or_false]at c;let rfl||rfl||rfl:=c<;>split<;>assumption
 rw[z]at a;$(nO a)
theorem Ro(T:Txt mg){a:dn}{W X Y YA YB YC:aS}{YD YE YF:fq}{fnX:kZ}(q1:ba P w K mg base "_law_purse" 2 (aF K W))(s1:DK W)(q2:ba P w K mg base "_law_floor" 3 (fR K 0 YD))(s2:D6 YD)(q3:ba P w K mg base "_law_web" 4 (aF K X))(s3:JK X)
 (q4:ba P w K mg base "_law_turned_web" 2 (fR K 0 YE))(s4:Fh YE)(p1:ba P w K mg base "_law_draw" 1 (fR K 0 YF))(sD:qR YF)(q5:ba P w K mg base "_law_tinting" 1 (aF K Y))(s5:Dj Y)(q6:wO P w K mg base "tinting_of" 6 (pC K fnX))(s6:Ip a fnX)(sT:zO YB)(sU:yk YC)(q8:ba P w K mg base "_law_is_floor" 3 (aF K YA))(s8:Bz YB YC YA)(q7:ba P w K mg base "_law_refused" 7 (aF K<|pP fnX a)){f:dn}{fd:hO}(F:bb K "law" "law" B4 f fd):∃fn,aV P w K mg base bc 8 f fd ["_law_script"] (aF K fn)/\D4 fn:=by
 let q6:=KD q6;$$$(bX F E1 (n:=1) ρ ?hb ?post)
 case hb=>let nd:=E1.nd;let lk:oU "_law_purse_here":=⟨trivial⟩;let kp:yZ "_law_found":=⟨trivial⟩;$("h")
 clear T F q1 q2 q3 q4 q5 q6 q7 q8 p1;ext ns YS hb;let(p0,e1):=s1 ns YS hb;let(_,_,e2,rs,p2,rfl,rfl,p):=s2 p0 8 ⋯ ⋯;let F:=p.fl;let so:∀x∈rs,u5 rs x.2:=λx _=>F.some x.2;let f8:=F.bI;let e3:=s3 rs ∅ (λy I=>F.ok I) λx g k hk=>(Jt hk<|so x g).1;let ew:(rs.map λx=>(x.1,bZ rs x.2 0++(bZ rs x.2 1).reverse++(bZ rs x.2 2).reverse++bZ rs x.2 3))=mw rs:=t9 λx g=>by rw[MQ (so x g)]
 rw[ew]at e3;let(h0,YX):=p.web;let M:=h0.bI;let(_,_,e4,j,N,rfl,rfl,tw):=s4 p2 (mw rs) M.1 M.2 λz hz=>by let a:=(h0.rg z hz).1;let b:=h0.len hz;$_
 let(h,hw):=tw.ok h0 YX;let R:=Sw tw;let pn:=tw.1;simp?[show(mw rs).map (·.1)=rs.map (·.1)by$$(mw);rw[eX];rfl]at pn;let B:∀us:Fl,gX us->eG j us=bi->sQ fnX [.L (j.map pairD),aw us]=al (.O<|.L<|(cM<|cQ us j).map tupS):=λus ok z=>by$$(sQ);rw[s6 j us h hw ok,if_pos z]
 let e5:=s5 rs j F h R;let YY:gX rs.reverse:=EI p.ok (by rw[z3];$p.ok.bI) λz hz=>{{z,P'.1 hz,ρ},z,P'.1 hz,ρ};let(z1,t1):=Dq F F.rev h pn (by rw[aaQ];$(adm _)) R F.Yk;let e6:=B rs.reverse YY z1;let(v,J,t5,v0,v1):=sD N (m:=100000000000000000000) ⋯ ⋯;obtain⟨c,ec⟩:∃c,1+v=c:={_,ρ};let(G,S):=F.Om (c:=c) ∅;let nb:∀x∈rs,∀n∈[x.2.l,x.2.b,x.2.r,x.2.t],0<=n/\n<=999:=λx g n hn=>by let:=F.row x g;let:=p.sm x g;simp?[eW,gW,or_false]at hn;$_
 let Y0:gX (rs.map λy=>(y.1,gO c y.2)):=G.O9 λx g=>by let(y,I,rfl):=ae.1 g;let:=p.sm y I;let a:c*y.2.r<=c*999:=abE this.1 ∅;let b:c*y.2.t<=c*999:=abE this.2 ∅;show c*y.2.r<_/\c*y.2.t<_;$_
 let(z2,t2):=Dq F G h pn (by rw[E7]) R S;let e7:=B _ Y0 z2;rw[t1]at e6;rw[t2]at e7;let tt:=Fi F p.ok h R;let q:1<=sizeLine:=∅
 let lr:eQ (aw rs)=al rs.length:=by simp[eQ,aw]
 generalize cM (cQ rs j)=D at *;let ne:dN true (.L<|D.map tupS) (.L<|D.map tupS)=al (.D<|.bl false):=by simp?[rB (sk tt) (sk tt),mM,wL,decide_eq_true ρ];rfl
 $$$(cE ρ ?w);show WS _ [.D (.bQ ns),.no,.no,.no,.no,.no,.no,.no,.no,.no,.no,.no,.no] _;$$$(ah<|aN (Z2:=[.D (.bQ ns),.O<|pD p0,.no,.no,.no,.no,.no,.no,.no,.no,.no,.no,.no]) (aC (aa ρ ak) e1) ρ<|aq ?_);$$$(ah<|aN (Z2:=[.D (.bQ ns),.O<|pD p2,.O<|aw rs,.no,.no,.no,.no,.no,.no,.no,.no,.no,.no]) (ff ρ (aa ρ ak) ρ e2 ρ) ρ<|aq ?_);$$$(ah<|aN (Z2:=[.D (.bQ ns),.O<|pD N,.D<|aw rs,.O<|.L<|j.map pairD,.no,.no,.no,.no,.no,.no,.no,.no,.no]) (ff ρ (aa (ag (aC (aa ρ ak) e3) ρ) ak) ρ e4 ρ) ρ<|aq ?_);generalize YG:Dat.L (j.map pairD)=e at *;$$$(ah<|aN (Z2:=[.D (.bQ ns),.O<|pD N,.D<|aw rs,.D e,.O<|.L<|D.map tupS,.no,.no,.no,.no,.no,.no,.no,.no]) (aC (aa ρ<|aa ρ ak) e5) ρ<|aq ?_);let er:al (Res.O<|.L (rs.map ai).reverse)=al (.O<|aw rs.reverse):=by simp[aw]
 $$$(ah<|aN (Z2:=[.D (.bQ ns),.O<|pD N,.D<|aw rs,.D e,.O<|.L<|D.map tupS,.O<|.L<|D.map tupS,.no,.no,.no,.no,.no,.no,.no]) (aC (aa ρ<|aa (ag (Az ρ ρ)<|congrArg Res.val<|Option.some.inj er) ak) e6) ρ<|aq ?_);$$$(dY (v_or (i9<|fw ρ ρ)<|AA ρ<|bL<|P6 ρ ρ tt) ρ ?_);$$$(ah<|gn (d:=.aG) (Z1:=[.D (.bQ ns),.O<|pD N,.D<|aw rs,.D e,.O<|.L<|D.map tupS,.O<|.L [],.no,.no,.no,.no,.no,.no,.no]) ρ<|aq ?_);$$$(ah<|aN (Z2:=[.D (.bQ ns),.O<|pD J,.D<|aw rs,.D e,.O<|.L<|D.map tupS,.O<|.L [],.D<|.int c,.no,.no,.no,.no,.no,.no]) (ay ρ (ag (ff ρ (aa (ag (ay ρ ρ ρ) ρ) ak) ρ t5 ρ) ρ) (show gN (.int 1) (.int v)=al (.D<|.int c)from by rw[<-ec];rfl)) ρ<|aq ?_);$$$(ah<|aN (Z2:=[.D (.bQ ns),.O<|pD J,.D<|aw rs,.D e,.O<|.L<|D.map tupS,.O<|.L [],.D<|.int c,.O<|.L [],.no,.no,.no,.no,.no]) (ck ak<|nT _) ρ<|aq ?_);$$$(ah<|dD (λk Z=>∃L,Fr L/\Z=[.D (.bQ ns),.O<|pD J,.D<|aw rs,.D e,.O<|.L<|D.map tupS,.O<|.L [],.D<|.int c,.O<|aw ((rs.take k).map λy=>(y.1,gO c y.2)),L,.no,.no,.no,.no]) (bP ρ) ⟨.no,ι ρ,ρ⟩ ?st ?fin)
 case st =>
  ext k d hd _ ⟨L,O,rfl⟩;rw[dk]at hd;let(x,ex,rfl):=ft.1 hd;let g:=eH ex;let bx:=nb x g;$({[.D (.bQ ns),.O<|pD J,.D<|aw rs,.D e,.O<|.L<|D.map tupS,.O<|.L [],.D<|.int c,.O<|aw ((rs.take k).map λy=>(y.1,gO c y.2)),.D<|ai x,.no,.no,.no,.no],by let rfl||(d,rfl):=O<;>rfl,?_});$(ah<|gn (gZ (d:=ai (x.1,gO c x.2)) ρ (aa (ag (ay (dW (aa (aY ρ ρ ρ ρ) ak) q) (ag (aC (aa (ag (cX (enc:=Dat.int) (xs:=[x.2.l,x.2.b,x.2.r,x.2.t]) (λn=>[.no,.D<|.int n,.D<|.int c]) (λn=>.int<|c*n) (xI<|ag (la ρ ρ<|Bv x) ρ) ρ (by show 4<=c6;$$(c6);decide) ?g6 (λn hn=>ag (fh<|ay ρ ρ<|zH<|uH (by let:=bx n hn;$_)) ρ)<|λ_ _=>rfl) ρ) ak) ρ) ρ)<|zx x.1<|gO c x.2) ρ) ak) ?ln)<|aq<|aP ⟨.D<|ai x,τ ⟨_,ρ⟩,?_⟩)
  .ext y _ Z (rfl|⟨z,rfl⟩)<;>rfl
  .simp?[a8,a8,iW];$$(c6);$_
  rw[eC ex];simp[aw]
 ext _ ⟨L,O,rfl⟩;rw[a8,lq];$(aq ?_);generalize aw (rs.map λy=>(y.1,gO c y.2))=o at *;$$$(dY (Z1:=[.D (.bQ ns),.O<|pD J,.D<|aw rs,.D e,.D<|.L<|D.map tupS,.O<|.L [],.D<|.int c,.D o,L,.no,.no,.no,.no]) (bL<|ay (ag (aC (aa ρ<|aa ρ ak) e7) ρ) ρ ne) ρ ?_);let(va,u,t6,a0,b0):=sD J (m:=(rs.length:Int)) (by let:=pB.2 F.ne;$_) (by lia);let(i,rfl):=aag a0;let hi:i<rs.length:=∅
 obtain⟨x,ex⟩:∃x,rs[i]?=al x:={_,bt hi};let g:=eH ex;let ix:cT (aw rs) (.int (i:Int))=al (ai x):=by show cT (.L<|rs.map ai) _=_;simp?[oP];$(nh (by rw[dk,ex];rfl))
 $$$(ah<|aN (Z2:=[.D (.bQ ns),.O<|pD u,.D<|aw rs,.D e,.D<|.L<|D.map tupS,.O<|.L [],.D<|.int c,.D o,L,.D<|.int i,.no,.no,.no]) (ff ρ (aa (iX ρ lr) ak) ρ t6 ρ) ρ<|aq ?_);$$$(ah<|aN (Z2:=[.D (.bQ ns),.O<|pD u,.D<|aw rs,.D e,.D<|.L<|D.map tupS,.O<|.L [],.D<|.int c,.D o,.D<|ai x,.D<|.int i,.no,.no,.no]) (v_res<|aY ρ ρ ρ ix) (by let rfl||(d,rfl):=O<;>rfl)<|aq ?_);obtain⟨y,ey⟩:∃y,rs[0]?=al y:={_,bt (by lia)};let I:=eH ey;let iy:cT (aw rs) (.int ((0:Nat):Int))=al (ai y):=by show cT (.L<|rs.map ai) _=_;simp?[oP];$(nh (by rw[dk,ey];rfl))
 $$$(ah<|aN (Z2:=[.D (.bQ ns),.O<|pD u,.D<|aw rs,.D e,.D<|.L<|D.map tupS,.O<|.L [],.D<|.int c,.D o,.D<|ai x,.D<|.int i,.D<|ai y,.no,.no]) (v_res<|aY ρ ρ ρ iy) ρ<|aq ?_);obtain⟨m,hm,em⟩:∃m:Nat,m<=2/\pR [.bl (bd<|(0:Int)<i)]=al (.D<|.int (m:Int)):=by
  ext(z:(0:Int)<i)
  .rw[decide_eq_true z];$({1,⋯,rfl})
  rw[decide_eq_false z];$({0,⋯,rfl})
 $$$(ah<|aN (Z2:=[.D (.bQ ns),.O<|pD u,.D<|aw rs,.D e,.D<|.L<|D.map tupS,.O<|.L [],.D<|.int c,.D o,.D<|ai x,.D<|.int i,.D<|ai y,.O<|.L (nE m [ai (y.1,x.2)]).flatten,.no]) (Uz (xs:=[ai (y.1,x.2)]) (n:=m) (ag (ck (aa (ag (ay (dW (aa (aY ρ ρ ρ ρ) ak) q) (ag (la ρ ρ<|Bv x) ρ)<|zx y.1 x.2) ρ) ak) q) ρ) (ag (aC (aa (ag (ay ρ ρ ρ) ρ) ak) em) ρ) (by show 1<=1000;decide) hm) ρ<|aq ?_);rw[rep1 ai];let sM:fQ (aw rs) (al 1) (al (i:Int))=al (.O<|.L<|((rs.drop 1).take (i-1)).map ai):=by show al (Res.O<|.L<|cutD (rs.map ai) _ _)=_;rw[Oq (by rw[a8];$hi),aby,aax]
 let Y4:fQ (aw rs) (al<|(i:Int)+1) am=al (.O<|.L<|(rs.drop<|i+1).map ai):=by rw[show(i:Int)+1=((i+1:Nat):Int)from by lia];show al (Res.O<|.L<|cutD (rs.map ai) _ am)=_;rw[qm,aax]
 let ad:∀xs ys:Fl,xs.length+ys.length<=1000->gN (.L<|xs.map ai) (.L<|ys.map ai)=al (.O<|.L<|(xs++ys).map ai):=λxs ys h=>by rw[fv];$(pU (by simp?[a8,a8];$$(c6);lia))
 obtain⟨us,U⟩:∃us:Fl,[(x.1,y.2)]++(rs.drop 1).take (i-1)=us:={_,ρ};let lM:((rs.drop 1).take (i-1)).length<=8:=n5 (List.length_take_le _ _) ∅;let lu:us.length<=9:=by rw[<-U];show((rs.drop 1).take (i-1)).length+1<=_;lia
 let a1:=ad [(x.1,y.2)] ((rs.drop 1).take (i-1)) (by show 1+_<=_;lia);rw[U]at a1;$$$(ah<|aN (Z2:=[.D (.bQ ns),.O<|pD u,.D<|aw rs,.D e,.D<|.L<|D.map tupS,.O<|.L [],.D<|.int c,.D o,.D<|ai x,.D<|.int i,.D<|ai y,.O<|.L<|(nE m (y.1,x.2)).map ai,.O<|aw us]) (ay (ag (ck (aa (ag (ay (dW (aa (aY ρ ρ ρ ρ) ak) q) (ag (la ρ ρ<|Bv y) ρ)<|zx x.1 y.2) ρ) ak) q) ρ) (ag (RI ρ ρ ρ sM) ρ) a1) ρ<|aq ?_);let lD:(rs.drop<|i+1).length<=8:=by rw[tm];lia
 let a2:=ad us (nE m (y.1,x.2)) (by rw[acM];lia);let a3:=ad (us++nE m (y.1,x.2)) (rs.drop<|i+1) (by simp?[eR,acM];$_);obtain⟨bs,V⟩:∃bs:Fl,us++nE m (y.1,x.2)++rs.drop (i+1)=bs:={_,ρ};rw[V]at a3;let C:gX bs:=by
  $(EI p.ok ?_ λz hz=>?_)
  .simp?[<-V,eR,eR,acM];$_
  rw[<-V,<-U]at hz;simp?[eK,kn]at hz;let((rfl||hz)||hz)||hz:=hz
  .$({⟨x,g,ρ⟩,y,I,ρ})
  .let:=aaM<|abC hz;$({⟨z,this,ρ⟩,z,this,ρ})
  .rw[List.eq_of_mem_replicate hz];$({⟨y,I,ρ⟩,x,g,ρ})
  let:=aaM hz;$({⟨z,this,ρ⟩,z,this,ρ})
 let nb:bs≠[]:=by rw[<-V,<-U];simp
 let Q:=X4 sT sU s8 h hw C nb;$$$(ah<|aN (Z2:=[.D (.bQ ns),.O<|pD u,.D<|aw rs,.D e,.D<|.L<|D.map tupS,.O<|.L [],.D<|.int c,.D o,.D<|ai x,.D<|.int i,.D<|ai y,.D<|.L<|(nE m (y.1,x.2)).map ai,.O<|aw bs]) (ay (ag (ay ρ ρ a2) ρ) (ag (la ρ (ag (ay ρ ρ ρ) ρ) Y4) ρ) a3) ρ<|aq ?_);let tb:=s6 j bs h hw C;rw[YG]at Q tb;ext(z:eG j bs=bi)
 .rw[z]at Q;let tg:=B bs C z;let(Fb,Rb,_):=xS z;let lg:=s5 bs j Fb h Rb;let tx:=Fi Fb C h Rb;rw[YG]at lg;$(dY (Z1:=[.D (.bQ ns),.O<|pD u,.D<|aw rs,.D e,.D<|.L<|D.map tupS,.O<|.L [],.D<|.int c,.D o,.D<|ai x,.D<|.int i,.D<|ai y,.D<|.L<|(nE m (y.1,x.2)).map ai,.D<|aw bs]) (i9<|fw (ag (aC (aa ρ<|aa ρ ak) Q) ρ) ρ) ρ ?_);let ee:=DZ tx tx;rw[decide_eq_true ρ]at ee;$(ah<|bY (ay (ag (aC (aa ρ<|aa ρ ak) tg) ρ) (ag (aC (aa ρ<|aa ρ ak) lg) ρ) ee)<|eB ⟨_,ρ⟩)
 rw[if_neg z]at tb;let z:eG j bs=bn:=by$$$$z
 rw[z]at Q;let rf:pP fnX a [e,aw bs]=al (.D<|.bl true):=by$$(pP);$(if_pos ⟨ρ,tb⟩)
 $(ah<|qA (Z1:=[.D (.bQ ns),.O<|pD u,.D<|aw rs,.D e,.D<|.L<|D.map tupS,.O<|.L [],.D<|.int c,.D o,.D<|ai x,.D<|.int i,.D<|ai y,.D<|.L<|(nE m (y.1,x.2)).map ai,.D<|aw bs]) (i9<|fw (ag (aC (aa ρ<|aa ρ ak) Q) ρ) ρ) ρ<|ah<|bY (aC (aa ρ<|aa ρ ak) rf)<|eB<|eB ⟨_,ρ⟩)
end
section
open W
section
variable{P:hZ}{w:nL}{K:f'}{mg:eS->Option cm}{base:nk}
structure DI (K:f') (x:eS) (s:aas) (f:dn):Prop where
 a:vT K hQ x=al (al<|.ref f)
 l:∃fd,bb K x x s f fd
 k:acF K (.ref f)=bi
theorem DI.ok{x:eS}{s:aas}{f:dn}{e:hO}{c:List eS}{k:Nat}{sp:Sp}{h:nk}(d:DI K x s f)(X:K.In h)(G:h.Ns hQ mg)(F:bb K x x s f e)(o:aV P w K mg base bc k f e c sp)(b:∀(kV g pm:cm) (j:Option dn) (i ct:cm) (us:List cm),us.length=c.length->aeF (adu x x (nX s) (g9 s) (aQ s) .none kV g pm j i ct) {us,[]}=pure (c.zip us)):ba P w K mg base x k sp:={f,e,c,o,ZE X G d.a,d.k,F.binds b}
def DI.go{h:nk}{x:eS}{s:aas}{f:dn}{a:List eS}{k:Nat}{e:Type}{Sp:e->Sp}{S:e->Prop}(X:K.In h)(G:h.Ns hQ mg)(d:DI K x s f)(o:∀{c:hO},bb K x x s f c->∃fn,aV P w K mg base bc k f c a (Sp fn)/\S fn)(b:∀(kV g pm:cm) (j:Option dn) (i ct:cm) (us:List cm),us.length=a.length->aeF (adu x x (nX s) (g9 s) (aQ s) .none kV g pm j i ct) {us,[]}=pure (a.zip us)):∃fn,ba P w K mg base x k (Sp fn)/\S fn:=by let(c,F):=d.l;let(fn,q,r):=o F;$({fn,d.ok X G F q b,r})
def DI.zB{h:nk}{x:eS}{s:aas}{f:dn}{c:List eS}{k:Nat}{g:Type}{Sp:g->Sp}{S:g->Prop}(X:K.In h)(G:h.Ns hQ mg)(d:DI K x s f)(o:∀{e:hO},bb K x x s f e->∃fn,aV P w K mg base (fU P w) k f e c (Sp fn)/\S fn)(b:∀(kV i pm:cm) (m:Option dn) (j ct:cm) (us:List cm),us.length=c.length->aeF (adu x x (nX s) (g9 s) (aQ s) .none kV i pm m j ct) {us,[]}=pure (c.zip us)):∃fn,wO P w K mg base x k (Sp fn)/\S fn:=by let(e,F):=d.l;let(fn,q,r):=o F;$({fn,{f,e,c,q,ZE X G d.a,d.k,F.binds b},r})
theorem Oy (h:aeo K C v=al b):(ae8 K C).isSome=bi:=by
 delta aeo at h;cases e:ae8 K C with
 |none=>rw[e]at h;$$$h
 |some c=>rfl
def Ge:∀{us:List b},us.length=1->∃a,us=[a]:=List.length_eq_one_iff.1
theorem F5 (h:us.length=2):∃a b,us=[a,b]:=by
 cases us with
 |nil=>$$$h
 |cons a r=>let(b,rfl):=Ge<|Nat.succ.inj h;$(⟨a,b,ρ⟩)
theorem Km (h:us.length=3):∃a b c,us=[a,b,c]:=by
 cases us with
 |nil=>$$$h
 |cons a r=>let(b,c,rfl):=F5<|Nat.succ.inj h;$(⟨a,b,c,ρ⟩)
theorem VA (h:us.length=4):∃a b c d,us=[a,b,c,d]:=by
 cases us with
 |nil=>$$$h
 |cons a r=>let(b,c,d,rfl):=Km<|Nat.succ.inj h;$(⟨a,b,c,d,ρ⟩)
def vx(K:f'):Sp:=λvs H Q _=>∃(a:dn) (ns:List Int),vs=[.ref a]/\cC K H a (ns.map V.int)/\ns.length<=63/\(∀n∈ns,kY n)/\∀b,Q (.bl true) b
def VE (s:D4 fn)(vs:List V)(H:Hp)(Q:VK)(E:XK)(h:vx K vs H Q E):aF K fn vs H Q E:=by let(a,ns,rfl,b,hl,c,k):=h;$({H,[.bQ ns],_,aj.refl H,{.ref a,[],ρ,⟨a,ρ,b⟩,ρ},s ns hl c,?_});ext v d Hi2 _ _ _ _ e;cases(e);$(k d)
end
local macro_rules | `(tactic| walk_at "bn")=>`(tactic| (intro _ _ _ _ _ _ us hl;first | (let(_,e):=Ge hl;subst e;rfl) | (let(_,_,e):=F5 hl;subst e;rfl) | (let(_,_,_,e):=Km hl;subst e;rfl) | (let(_,_,_,_,e):=VA hl;subst e;rfl)))
def all_mk{l:afR}{w:nL}{K:f'}{h:nk}{mg:eS->Option cm}{fa YO YQ YR YS YT YU YV YW YX YY YZ Y0 Y1 Y2 Y3 Y4 Y5 Y6 Y7 Y8 Y9 Y' Za Zb Zc Zd Zf Zg Zh Zi Zj Zk Zl Zm Zn Zo Zp Zq Zr Zt Zu Zv Zw Zx Zy Zz ZA ZC ZD b CT o0 o1 o2 o3 o4 o5 o6:dn}{k:dn}{t1 t2 t3 t4 t5 t6 t7 t8:Tok}{nW:Nat}{slW:Array (Option cm)}(X:K.In h)(G:h.Ns hQ mg)(hfa:mg "law"=al (.ref fa))
 (ZJ:DI K "follower" Ap YO)
 (ZK:DI K "is_name" Ak YQ)
 (ZL:DI K "is_pair" BC YR)
 (ZM:DI K "is_ring" BA YS)
 (ZN:DI K "has_form" Ab YT)
 (ZO:DI K "ties_are_shared" yV YU)
 (ZP:DI K "corners_of" B7 YV)
 (ZQ:DI K "corner_closes" BL YW)
 (ZR:DI K "corners_close" zG YX)
 (ZS:DI K "row_along" BN YY)
 (ZT:DI K "wall_has_row" BR YZ)
 (ZU:DI K "has_one_of" zl Y0)
 (ZV:DI K "all_reached" AX Y1)
 (ZW:DI K "ties_of" zD Y2)
 (ZX:DI K "threes_of" B' Y3)
 (ZY:DI K "must_web" Bx Y4)
 (ZZ:DI K "is_whole" Ce Y5)
 (Z5:DI K "is_row" zY Y6)
 (Z6:DI K "area" yG Y7)
 (Z7:DI K "width_shared" BU Y8)
 (Z8:DI K "height_shared" zX Y9)
 (Z9:DI K "lies_over" B8 Y')
 (l_aw:DI K "is_any_floor" yc Za)
 (l_ax:DI K "wall_rows" Bl Zb)
 (l_ay:DI K "side_touched" ym Zc)
 (l_az:DI K "place_clockwise" Bu Zd)
 (l_ba:DI K "touching" yF Zf)
 (l_bb:DI K "all_touching" Al Zg)
 (l_bc:DI K "names_of" BW Zh)
 (l_bd:DI K "is_floor" Cj Zi)
 (y:DI K "row_of" CA Zj)
 (l_bf:DI K "tinting_of" B3 Zk)
 (l_bg:DI K "_law_mixed" A2 Zl)
 (l_bh:DI K "_law_purse" BM Zm)
 (l_bi:DI K "_law_draw" ye Zn)
 (l_bj:DI K "_law_names" x5 Zo)
 (l_bk:DI K "_law_cut" yJ Zp)
 (l_bl:DI K "_law_floor" Bp Zq)
 (l_bm:DI K "_law_meets" Cg Zr)
 (l_bn:DI K "_law_side" zF Zt)
 (l_bo:DI K "_law_neighbours" AU Zu)
 (l_bp:DI K "_law_web" Ck Zv)
 (l_bq:DI K "_law_turned_web" zN Zw)
 (l_br:DI K "_law_ties" zW Zx)
 (l_bs:DI K "_law_touches" yW Zy)
 (l_bt:DI K "_law_is_floor" Bg Zz)
 (l_bu:DI K "_law_tinting" zM ZA)
 (l_bv:DI K "_law_refused" zQ ZC)
 (z:DI K "law" B4 ZD)
 (Y:vT K hQ "len"=al am)
 (Z:vT K hQ "int"=al am)
 (c:vT K hQ "isinstance"=al am)
 (u:vT K hQ "range"=al am)
 (YA:vT K hQ "min"=al am)
 (YB:vT K hQ "max"=al am)
 (YC:vT K hQ "all"=al am)
 (A:vT K hQ "dict"=al am)
 (n:vT K hQ "sorted"=al am)
 (x:vT K hQ "tuple"=al am)
 (B:vT K hQ "list"=al am)
 (YD:vT K hQ "str"=al am)
 (C:vT K hQ "bool"=al am)
 (YE:vT K hQ "any"=al am)
 (YF:vT K hQ "set"=al am)
 (YG:vT K hQ "abs"=al am)
 (YH:vT K hQ "sum"=al am)
 (i:vT K hQ "enumerate"=al am)
 (YI:vT K hQ "zip"=al am)
 (YN:vT K hQ "NoFloor"=al (al<|.ref b))
 (aT:vT K hQ "TouchError"=al (al<|.ref CT))
 (xi:aep K b [.type "ValueError",.type "Exception",.type "BaseException",.type "object"] "ValueError.__new__"=bi)
 (xm:ahc K (.ref b) (.ref CT)=al true)
 (xa:adJ K (.ref b) "__getattribute__"=al (al<|.builtin "BaseException.__getattribute__"))
 (xb:adJ K (.ref b) "__getattr__"=al am)
 (xc:adJ K (.ref b) "__class__"=al (al<|.builtin "object.__class__"))
 (xd:aeo K b (.type "BaseException")=al true)
 (xe:aeo K b (.type "object")=al true)
 (ao0:vT K hQ "NoCut"=al (al<|.ref o0))
 (y0:aak K (.ref b) (.ref o0)=al false)
 (ao1:vT K hQ "NoName"=al (al<|.ref o1))
 (y1:aak K (.ref b) (.ref o1)=al false)
 (ao2:vT K hQ "NoRoom"=al (al<|.ref o2))
 (y2:aak K (.ref b) (.ref o2)=al false)
 (ao3:vT K hQ "NoText"=al (al<|.ref o3))
 (y3:aak K (.ref b) (.ref o3)=al false)
 (ao4:vT K hQ "NoTinting"=al (al<|.ref o4))
 (y4:aak K (.ref b) (.ref o4)=al false)
 (ao5:vT K hQ "NoWeb"=al (al<|.ref o5))
 (y5:aak K (.ref b) (.ref o5)=al false)
 (ao6:vT K hQ "Twice"=al (al<|.ref o6))
 (y6:aak K (.ref b) (.ref o6)=al false)
 (yw:aak K (.ref b) (.ref b)=al true)
 (yv:aak K (.ref b) (.type "ValueError")=al true)
 (z_ve:vT K hQ "ValueError"=al am)
 (aW:vT K hQ "WALLS"=al (al<|.ref k))
 (lW:K.lookup k=al {.type "tuple",am,.seq #[.str "north" t1,.str "east" t2,.str "south" t3,.str "west" t4] nW,slW})
 (aM:vT K hQ "MOST_ROOMS"=al (al<|.int 8 t5))
 (aL:vT K hQ "LONGEST_NAME"=al (al<|.int 8 t6))
 (aR:vT K hQ "FEWEST_NEIGHBOURS"=al (al<|.int 3 t7))
 (aX:vT K hQ "ROW_LENGTH"=al (al<|.int 5 t8)) :
  ∃fd:hO,(∀(s:cA) (v:cm),afC s fd {[v],[]} [("_law_script",v)])/\∀base:nk,K.In base->base.Ns hQ mg->aV l.prog w K mg base bc 8 fa fd ["_law_script"] (vx K):=by
 let e:=hfa.symm.trans<|ZE X G z.a;$$$e;let T:Txt mg:={p5 X G Y,p5 X G Z,p5 X G c,p5 X G u,p5 X G YA,p5 X G YB,p5 X G YC,p5 X G A,p5 X G n,p5 X G x,p5 X G B,p5 X G YD,p5 X G C};let(YJ,D):=z.l;let X0:yQ K mg "NoFloor" b:={ZE X G YN,_,_,_,_,PySem.F.excBase_ValueError,xi};let hN:afx K (.ref b) [.ref o0,.ref o1,.ref o2,.ref o3,.ref o4,.ref o5,.ref o6]=al false:=by simp?[afx,y0,y1,y2,y3,y4,y5,y6]
 let(_,_,_,_,_,_,_,_,_,hfd,_,_):=id D.ex;$({YJ,λs v=>by rw[hfd];$(.of_eq ρ),λbase _ _=>?_});let go:=@DI.go l.prog w K mg base h;let zB:=@DI.zB l.prog w K mg base h;let(_,f,g):=go X G l_bi (Ux T) (by$("bn"));let m:fJ K mg "WALLS" (.U [.str "north",.str "east",.str "south",.str "west"]):={.ref k,_,ZE X G aW,ρ,λH=>{k,[.str "north",.str "east",.str "south",.str "west"],ρ,τ {_,_,_,lW,ρ,ρ,(by show 4<=c6;$$(c6);decide),.cons {_,ρ}<|.cons ⟨_,ρ⟩<|.cons ⟨_,ρ⟩<|.cons ⟨_,ρ⟩ .nil},{_,_,ρ,ρ,_,_,ρ,ρ,_,_,ρ,ρ,_,_,ρ,ρ,ρ}}};let gM:fJ K mg "MOST_ROOMS" (.int 8):={.int 8,_,ZE X G aM,{_,ρ},λH=>rfl};let gL:fJ K mg "LONGEST_NAME" (.int 8):={.int 8,_,ZE X G aL,{_,ρ},λH=>rfl};let gT:yt K mg "WALLS" E4:={k,_,_,_,ZE X G aW,lW,ρ,ρ,ρ,(by show 4<=c6;$$(c6);decide),.cons {_,ρ}<|.cons ⟨_,ρ⟩<|.cons ⟨_,ρ⟩<|.cons ⟨_,ρ⟩ .nil};let gF:fJ K mg "FEWEST_NEIGHBOURS" (.int 3):={.int 3,_,ZE X G aR,{_,ρ},λH=>rfl};let gR:fJ K mg "ROW_LENGTH" (.int 5):={.int 5,_,ZE X G aX,{_,ρ},λH=>rfl};let t:=p5 X G YE;let d:=p5 X G YF;let YK:=p5 X G YI;let YL:=p5 X G YG;let j:=p5 X G i;let T2:AO mg:={t,p5 X G YH,d,j};let(_,E,I):=go X G ZK (Tw T m gL) (by$("bn"));let(_,J,L):=go X G ZJ (Vq T m gT) (by$("bn"));let(_,d_ac,s_ac):=go X G ZL (Mv T E I) (by$("bn"));let(_,d_ad,s_ad):=go X G ZM (Qp T gF d) (by$("bn"));let(_,d_ae,s_ae):=go X G ZN (Xd T m gM d d_ac s_ac d_ad s_ad) (by$("bn"));let(_,d_af,s_af):=go X G ZO (Uv T) (by$("bn"));let(_,o,p):=go X G ZP (XR T YK) (by$("bn"));let(_,d_ah,s_ah):=go X G ZQ (K3 T m J L) (by$("bn"));let(_,d_ai,s_ai):=go X G ZR (Qt T o p d_ah s_ah) (by$("bn"));let(_,d_aj,s_aj):=go X G ZS (O5 T) (by$("bn"));let(_,d_ak,s_ak):=go X G ZT (MT T o p J L d_aj s_aj) (by$("bn"));let(_,d_al,s_al):=go X G ZU (XQ T t) (by$("bn"));let(_,d_am,s_am):=go X G ZV (Vp T m d_al s_al) (by$("bn"));let(_,d_an,s_an):=go X G ZW (TZ T m) (by$("bn"));let(_,d_ao,s_ao):=go X G ZX (T1 T o p) (by$("bn"));let(_,d_ap,s_ap):=go X G ZY (XX T m d_ae s_ae d_af s_af d_ai s_ai d_ak s_ak d_am s_am d_ao s_ao d_an s_an) (by$("bn"));let(_,d_aq,rfl):=go X G ZZ (λF=>{_,KL T F,ρ}) (by$("bn"));let(_,d_as,s_as):=go X G Z6 (MI T) (by$("bn"));let(_,d_ar,s_ar):=go X G Z5 (Yp T gR E I d_aq) (by$("bn"));let(_,M,N):=go X G Z7 (Nh T) (by$("bn"));let(_,O,Q):=go X G Z8 (NL T) (by$("bn"));let(_,d_av,s_av):=go X G Z9 (LP T T2 M N O Q) (by$("bn"));let(_,d_aw,s_aw):=go X G l_aw (Lg T T2 gM d_ar s_ar d_av s_av d_as s_as) (by$("bn"));let(_,d_ax,s_ax):=go X G l_ax (Xw T) (by$("bn"));let(_,d_ay,s_ay):=go X G l_ay (Tq T M N O Q) (by$("bn"));let(_,d_az,s_az):=go X G l_az (Yl T) (by$("bn"));let(_,d_ba,s_ba):=go X G l_ba (M6 T m d_az s_az d_ay s_ay) (by$("bn"));let(_,R,S):=go X G l_bb (V1 T d_ax s_ax d_ba s_ba) (by$("bn"));let(_,d_bc,s_bc):=go X G l_bc (V2 T) (by$("bn"));let(_,d_bd,s_bd):=go X G l_bd (Qo T d_ap s_ap d_aw s_aw R S d_bc s_bc) (by$("bn"));let(_,d_bg,s_bg):=go X G l_bg (SI T) (by$("bn"));let(_,d_bh,s_bh):=go X G l_bh (PK T YL d_bg s_bg) (by$("bn"));let(_,d_bj,s_bj):=go X G l_bj (Yh T f g) (by$("bn"));let(_,d_bk,s_bk):=go X G l_bk (O1 T f g) (by$("bn"));let(_,d_bl,s_bl):=go X G l_bl (UW T f g d_bj s_bj d_bk s_bk) (by$("bn"));let(_,q,r):=go X G l_bm (Oo T) (by$("bn"));let(_,d_bn,s_bn):=go X G l_bn (RT T q r.ok) (by$("bn"));let(_,d_bo,s_bo):=go X G l_bo (Ww T d_bn s_bn) (by$("bn"));let(_,d_bp,s_bp):=go X G l_bp (LD T d_bo s_bo) (by$("bn"));let(_,d_bq,s_bq):=go X G l_bq (Xv T f g) (by$("bn"));let(_,d_br,s_br):=go X G l_br (VW T d) (by$("bn"));let(_,d_bs,s_bs):=go X G l_bs (Og T q r) (by$("bn"));let(_,d_bt,s_bt):=go X G l_bt (Vm T q r d_bs d_br) (by$("bn"));let(_,U):=y.l;let d_be:=y.ok (P:=l.prog) (w:=w) (base:=base) X G U (X8 U) (by$("bn"));let(_,V,s_bf):=zB X G l_bf (Xu T X0 d_bd s_bd R S d_be) (by$("bn"));let(_,d_bu,s_bu):=go X G l_bu (L5 T) (by$("bn"));let(_,d_bv,rfl):=go X G l_bv (λF=>{_,M7 (ZE X G aT) xm (p5 X G c) (ZE X G YN) (p5 X G z_ve) {xa,xb,xc,xd,xe,Oy xd} yw yv (ZE X G ao0) (ZE X G ao1) (ZE X G ao2) (ZE X G ao3) (ZE X G ao4) (ZE X G ao5) (ZE X G ao6) hN V F,ρ}) (by$("bn"));let(fnL,oL,sL):=Ro (P:=l.prog) (w:=w) (base:=base) T d_bh s_bh d_bl s_bl d_bp s_bp d_bq s_bq f g d_bu s_bu V s_bf s_bs s_br d_bt s_bt d_bv D;$(oL.imp<|VE sL)
def walk{l:afR}{q:hZ}{c:List eS}{x:(eS->Option cm)->nk->Prop}{i:nL->nk->Prop}{d:DefRec}{K:Params->f'}(y:l.most=al 63)(j:d.params.defaults=[])
 (A:∀(w:nL) (h:nk),i w h->(K w.params).In h)
 (F:∀(w:nL) (mg:eS->Option cm) (fa:dn) (h:nk),(K w.params).In h->h.Ns hQ mg->mg d.name=al (.ref fa) ->
   ∃e:hO,(∀(s:cA) (u:cm),afC s e {[u],[]} [("_law_script",u)])/\∀base:nk,(K w.params).In base->base.Ns hQ mg->aV l.prog w (K w.params) mg base bc 8 fa e ["_law_script"] (vx<|K w.params)) :
  W.WalkO q c x i l.row.toRowW d [] (λf vs=>PySem.call f vs) :=
 by
 ext w s0 s1 mg mb G Y fa o pm cd doc dV kV ho hd hcd m p B args vals as C D hr E hx;cases Dflts.none m j;cases Dflts.noKw m;let(a,vs,ns,rfl,rfl,I,J,t):=XG y C E;let v:=A w _ Y;let(e,L,M):=F w mg fa _ v G.T.g p;let N:∀n∈ns,kY n:=λn hm=>PyData.bits_of_layable<|layableW_item (layW_cons D).1 (.int n) (ae.2 ⟨n,hm,ρ⟩);$(enter_call (aaC (O4 v G.T.g G.T.b G.T.builtins G.T.nolimit B I J (n5 t ⋯) {ρ,⋯,⋯} M L (λH _ O=>{a,ns,ρ,O,t,N,λ_=>rfl}) λ_ _ _ z=>z) λr s' P=>?_));let(rfl,Q,R,S):=P;$({ι {.bool true,.bool true,[],ρ,λ_=>rfl,.bool true,XM l _,λ_=>{acJ,λ_ hm=>nomatch hm}},Q,R,S})
end
end
end L2
open PySem PySem.W PyProof.Rows
local macro_rules | `(tactic| walk_at "df") => `(tactic| (refine' ⟨_, L2.Q9 ?l ?c ?k⟩; (case l => k_is); (case c => k_is); (case k => k_is)))
local macro_rules | `(tactic| walk_at "di") => `(tactic| (refine' L2.DI.mk ?a ?b ?c; (case a => k_is); (case b => walk_at "df"); (case c => first | k_is | kit_is)))
section
namespace PySem.W.Fast
open Lean in
local macro_rules|`(example:=0)=>do
 let t:=`PySem.Challenge.cw_roomtouch_k22_tintings_read_off_holds
 return mkNullNode (← ([`PySem.Challenge.pw_roomtouch_k22_tintings_read_off,`PySem.Challenge.rw_roomtouch_k22_tintings_read_off]++((List.range 486).map (s!"o_{·}")++"env_41 heap_39 heap_46 heap_486 sts_109 sts_124 sts_139 sts_154 sts_169 sts_214 sts_290 sts_371 sts_452 sts_49 sts_64 sts_79 sts_94 tree_108 tree_123 tree_138 tree_153 tree_168 tree_213 tree_289 tree_370 tree_451 tree_47 tree_485 tree_63 tree_78 tree_93 view_39".splitOn " ").map t.str).mapM λn=>`(def $(mkIdent<|.mkSimple s!"tw{n.hash}"):ident:=())).toArray
example:=0
end PySem.W.Fast
end
set_option maxRecDepth 100000 in
set_option maxHeartbeats 0 in
theorem PySem.Challenge.cw_roomtouch_k22_tintings_read_off_holds : PySem.Challenge.rw_roomtouch_k22_tintings_read_off.Holds := by
  w_on; o_law; k_head; (case hw => w_witness2)
  k_fill
  refine L2.walk (l := PySem.Challenge.rw_roomtouch_k22_tintings_read_off) rfl rfl (fun w h Y => W.kIn_of Y) ?F
  case F =>
    intro w mg fa h b G a
    apply L2.all_mk b G a
    all_goals try first | k_is | kit_is | k_exc | kts_exm | walk_at "df" | walk_at "di"
