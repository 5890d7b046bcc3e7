import PyProof.Rows.All
import KE.KDictOf
import KE.KIsAll
import KE.KFromBytes
import KE.KDictSum
import KE.KEqDict
import KE.LcSums
import KE.KItem
import Lean
import PyProof.EqAt
import PyProof.EqKinds
import PyProof.TupleCall
import PyProof.Rows.SortStr
import PyProof.StrLawsReplace
import PyProof.StrLawsIdx
import PyProof.StrLawsIn
import PyProof.StrBlockI
import PyProof.StrBlockL
import PyProof.SliceList
import PyProof.InstStoreFacts
import PyProof.NsDelKeeps
import PyProof.StationsW
import PyProof.ExcArgs
import PyProof.ExcBaseAll.ValueError
import PyProof.StrCalls
import PyProof.ListRange
import PyProof.EnumMake
import PyProof.Draws
import PyProof.FactsAll.dict
import PyProof.StrBlock2
import PyProof.Rows.SumAny
import PyProof.NeKinds
import PyProof.Rows.MinMaxN
import PyProof.Rows.Range3
import PyProof.StrLawsFirst
import PyProof.AttrMissHeap
import PyProof.Rows.CallKwBuiltin
import KE.KMinKey
import PyProof.FString2
import KE.KDictLaws
import KE.KRevIter
import PyProof.DictItems
import PyProof.ZipIter
import KE.KIntText
import PyProof.Rows.StrKeys3
import PyProof.StrCalls2
import PyProof.StrLawsTight
import PySem.Challenge.RW_bandscribe_k60_rows_at_the_desk
set_option genInjectivity false
set_option compiler.extract_closed false
set_option genSizeOf false
open PySem.Challenge renaming pw_bandscribe_k60_rows_at_the_desk->À,rw_bandscribe_k60_rows_at_the_desk->Á
open PySem.W renaming Frag->O4,findIn->OH,kia_one->Pr,emptyDict->PD,recOk->PV,xlAt->Q7,instObj->Qf,fnOf->Qh,callWith_K->Qz,keepIn->QL,boot_heap->QY,isFn->Rh,methodCall_KW->Rj,looks_findIn->Rl,codeIn->RC,kHook->RN,plainGet->RO,OpenLaw->Sl,plainGet_of->Sr,lookIn->Su,hasDictIn->T1,methodObj->T4,looks_clsIn->Tj,takerIn->TL,cellsFrom_some->U2,looks_mroIn->U9,SharedT->Ub,kitOne->Uj,callWith_K0->UM,check_slot->UQ,specialIn->Vi,plainOver->Vl,set_plain->Vp,kitx_list->Vr,kitx_dict->Vs,boot_o_0->VA,handedIn->VB,kdl_dict->VD,kdl_call->VE,WalkO->VN,makesIn->VQ
open List renaming length_map->O5,getElem?_eq_some_iff->O8,mem_cons_of_mem->Of,map_cons->Og,mem_cons->Oi,mem_map->Ol,mem_cons_self->Ot,length_cons->Ov,mem_append_right->Ow,mem_of_getElem?->Ox,length_append->Oy,mem_singleton->Oz,lookup_cons->OA,getElem?_map->OC,all_eq_true->OD,size_toArray->OO,map_map->OS,length_take->OT,map_append->OV,getElem?_eq_getElem->P1,mem_append->P2,getElem?_append_right->P5,replicate->P9,sum_cons->Pa,append_nil->Pq,take_length->Pu,append_assoc->PF,range->PL,any_eq_true->PR,getElem?_set_ne->PZ,filter_cons_of_pos->Q1,getD_eq_getElem?_getD->Q9,getElem?_append_left->Qe,nodup_cons->Qg,take_add_one->Qk,flatMap_cons->Qn,getElem?_set_self->Qu,mem_filter->QC,drop_eq_getElem_cons->QH,getElem_inj->QN,not_mem_nil->QP,map_congr_left->QR,filter_cons_of_neg->QS,find?_cons->R0,mem_replicate->R9,take_of_length_le->Rc,map_nil->Rf,length_filter_le->Rg,mem_of_mem_take->Rm,any_cons->Ro,length->Rp,filter_append->Ru,length_eq_zero_iff->RG,length_replicate->RV,length_singleton->RW,length_nil->S0,mem_append_left->S2,foldl_cons->S8,mem_iff_getElem->Sd,filterMap_cons->Sq,mem_range->Sv,map->Sy,drop_zero->SA,dropLast_concat_getLast->SD,lookup->SE,map_replicate->SM,prefix_append->SN,foldl_append->T2,nodup_append->T7,flatten_cons->T8,length_range->T9,getElem_take->Tb,extract_eq_take_drop->Tg,any_map->Tl,take_prefix->Tr,mem_flatMap->Ts,length_filterMap_le->Tu,getElem_mem->Tx,of_mem_zip->TN,range_succ->TR,drop_of_length_le->U8,take_append_drop->Uc,nodup_nil->Uk,eq_nil_or_concat->Ul,concat_eq_append->Um,singleton_append->Uo,all_cons->UE,filter_eq_self->UL,replicate_succ->UN,length_flatten->UO,filter_sublist->UU,mem_filterMap->V0,all_map->V3,contains_cons->Ve,map_id'->Vf,any_eq_false->Vm,filter_congr->Vu,length_drop->VF,filter_cons->VG,cons_append->VH,suffix_refl->VI,append_inj'->VJ,filter_map->VR,map_const'->VU
open PySem renaming wpAny_bind->O6,Program->Om,wpAny_pure->Oo,wpAny_mono->OB,mainGlobals->OG,FuncData->P0,bootBuiltins->P7,wpAny_loadPart_at->Pg,compareOp->Pj,wpAny_passesOwn->Pk,OsState->Pn,importedModules->Pp,wpAny_execs_cons->Pw,strKind->Px,excClassObj->PB,mem_of_lookup->PH,wpAny_execs_nil->PQ,foldedSetIterable->Q4,sysModules->Q8,wpAny_Call_Name_kw->Qc,wpAny_loadName_local->Qi,wpAny_truthy_bool->Ql,wpAny_Assign_Name->Qm,wpAny_toks_of->Qp,wpAny_holding->Qq,Scope->Qr,wpAny_isSubtype_exc->Qs,wpAny_call->Qw,codeAny_mono->Qy,codeAny_call_builtin->QG,sizeLine_eq->QI,keywordEach->QJ,swapsWith->QK,wpAny_getItem_str_slice->QT,behindInMarks->QV,attributeBase->QX,typeIs_str->R6,scanBound->R7,assignEach->Rk,cLine->Rq,GenState->Rr,getMethod->Ry,wpAny_comprehension_free->Rz,onTheHeap->RB,wpAny_Name->RE,wpAny_pyIter_enum->RJ,wpAny_field->RK,Builtin->RQ,cellsFrom->RT,plainObj_wpAny_Assign_Attribute->RX,letOwnedTupleGo->RY,Result->S1,post_val_or_str->S5,wpAny_setField->Sw,newFunctionEnv->Sz,tupleKind_room_in1->SJ,wpAny_letOwnedTupleGo_enum->SX,wpAny_standAt->SY,wpAny_newObj_type->T3,wpAny_pyIter_list->T5,typeLookup->Te,call_meets->Tf,length_partsBetween->Th,isInstance->Ti,callWith->Tq,checkBuiltinCall->Tv,treeTable->TC,Model->TK,setFlight->TU,tupleKind->TV,codeAny_builtin->TX,subscripted->U3,wpAny_Call_method_late->U5,codeAny_compStart_list->U6,wpAny_isTrue_Compare1->Ud,wpAny_storeName_local->Ue,boot_len->Ug,wpAny_loadPart->Uh,builtinsNs->Ut,wpAny_attempt->UG,wpAny_loadName_cell->UJ,codeAny_forLoop_any->UK,wpAt_of_wpAny->UR,pushCells->V5,Within->V6,PassesOwn->V7,storeName->V8,Keyword->Vj,sliceBounds->Vz,wpAt_bind->VS,call->VW
open Nat renaming lt_of_lt_of_le->O7,le_refl->Ob,le_trans->Od,ne_of_lt->Oe,add_le_add->OJ,lt_irrefl->OX,zero_le->OZ,ne_of_gt->Py,le_succ->PX,pow_le_pow_right->Qj,lt_succ_self->Qt,add_sub_cancel_left->QU,lt_of_le_of_lt->QZ,not_lt_zero->R4,le_of_lt->Rw,le_of_eq->S3,sub_self->Sj,lt_or_eq_of_le->SQ,lt_succ_of_lt->T6,lt_trichotomy->Ta,add_comm->Vc,toDigitsCore->VL,le_of_not_lt->VM
open PySem.Heap renaming get?_push_of_some->O9,lt_size->Oa,get?_push_size->Oq,get?_update_other->P8,size_push->Q0,get?_update_self->QE,SameBut->S4,get?_update_ne->UX
open Option.some renaming inj->Oc
open PySem.Value renaming ref->Oh,none->Pm,builtin->Qa,bool->Td,int->TF,str->TH,type->Us,isStrOf->UB,isStrOf_shape->UH,float->Vx
open Bool renaming false_ne_true->Oj,and_eq_true->QO,false_eq_true->R3,and_false->RD,eq_iff_iff->RZ,false_or->SU,and_eq_true_iff->UA,eq_false_iff->Vv,or_eq_true->VO
open Sum renaming inr->Ou,inl->Vh
open False renaming elim->OI
open PySem.Str renaming ofString->OM,join->P6,length->QF
open PySem.Txt renaming slice->OQ,mul->QM,slice_le->Ri,replace->SG,join->Tp,split->TY
open PySem.W.OpenRow renaming toRowW->OU
open PySem.NameKind renaming free->OW,cell->Ph
open PySem.W.RowW renaming records->OY
open PySem.W.OpenLaw renaming row->P4
open Int renaming toNat_natCast->Pb,emod_lt_of_pos->QB,emod_nonneg->R8,natCast_add->Sa,natCast_pow->TZ,lt_of_le_of_lt->Vd,lt_trans->Vg
open PySem.Builtin.Str renaming strSliceIndices->Pt,occurrences->Q2,subAt->Vt
open Ne renaming symm->Pz
open True renaming intro->PN
open PySem.F renaming called_set->PU,excBase_ValueError->Qb,plainAttrs_str->Qv,slot_str_split->RF,plainAttrs_list->RH,slot_list_append->RM,args_str_split_2->SR,excAttr_ValueError->SZ,entry_str_split->Tc,slot_dict_values->To,type_list_append->Tw,slot_list_extend->Ui,entry_bexc_ga->Up,slot_str_join->Uq,type_str_join->Ur,args_bexc_ga->Uz,slot_str_index->UP
open List.cons renaming inj->PY
open PyProof.Rows renaming callWith_type1->Q6,callWith_builtin1->S7,int_text_len_1921->S9,slot_str_getitem->Tn,sortedS->Tz,subscriptTail_builtinR->U4,Subscript_->Uu,subscriptTail->UD,envOfC->UT,plainSeenE->Vw,add_str->W0
open PySem.PassesOwn renaming leaving->Qo,never->Sf
open Array renaming getD_eq_getD_getElem?->Qx,getElem?_toList->QD,length_toList->QQ,toList_inj->RP,toArray_toList->S6,getElem?_eq_some_iff->SV,toList_extract->Uy
open PyProof.Rows.F renaming plain_set_update_loop->QA,entry_set_update_loop->RA
open PySem.Obj renaming mapFields->QW,data_mapFields->R5,isFreed_of_fields->RU
open ForInStep renaming yield->R1
open Eq renaming trans->Ra
open Sum.inr renaming inj->Rb
open Option renaming bind_some->Rn,map_eq_some_iff->U0,isSome_some->V4,isSome_map->Vn,getD_some->VC
open PySem.Builtin.List renaming listTooLong->Rt
open Or renaming inl->Rv
open PySem.Calls renaming Constant_str->Rx,callWith_builtin->RL,spliced_cons->SH,Name_function_global->SW,evalArgs_plain->Uv,spliced_nil->Vo
open Prod renaming ext->Ss
open PySem.Code renaming quiet_builtin->SK,isFrame->V2
open PySem.SeqAt.EqAt renaming same->TQ,int_str->UY,str_int->UZ
open Prod.mk renaming inj->U1
open PySem.StrLaws renaming sliceText_from->U7,sliceText_to->Ux,split_free->Va,join_split->Vb
open PySem.Builtin.Dict renaming samePairs->Ua
open PySem.Around renaming under_plainId->Uw,under->V1
open PySem.Paired renaming length->UC
open PySem.EntryCells renaming newEntry->UI
open Std.Legacy.Range renaming forIn_eq_forIn_range'->UW
open PySem.W.Looks renaming here->V9
open PySem.Flt renaming mathRow->Vk
open PySem.Heap.Ns1 renaming of_empty->Vq
open PySem.Data renaming fields->Vy,cell->VZ
open PySem.SeqAt renaming eq_listAt->VP
open PySem.Within renaming cons->VX
open PySem.Builtin.Frozenset renaming updateFrom->VY
set_option Elab.async false
set_option linter.all false
set_option maxRecDepth 100000
set_option maxHeartbeats 4000000
namespace Tt
open PySem PySem.W PySem.Calls PyProof.Rows
noncomputable def xU(tb:String->Option RQ)(p:Om)(w:World)(n₀:Nat)(ann:Option Value):Nat->Ub->Thread->Option Ub
 |0,_,_=>none
 |n+1,s,t=>match through t with
  |true=>some s
  |false=>match stepOk n₀ ann t with
   |false=>none
   |true=>match stepT (denote tb) p w s t with
    |some (s',t')=>xU tb p w n₀ ann n s' t'
    |none=>none
theorem xV{tb:String->Option RQ}{p:Om}{w:World}{n₀:Nat}{ann:Option Value}:∀{n:Nat} {s s':Ub} {t:Thread},xU tb p w n₀ ann n s t=some s'->topRun tb p w n₀ ann n s.abs t=some s'.abs
 |0,_,_,_,h=>by cases h
 |n+1,s,s',t,h=>by
  unfold xU at h;unfold topRun
  cases ht:through t with
  |true=>rw[ht]at h;cases h;rfl
  |false=>
   rw[ht]at h
   cases hk:stepOk n₀ ann t with
   |false=>rw[hk]at h;cases h
   |true=>
    rw[hk]at h
    cases hs:stepT (denote tb) p w s t with
    |none=>rw[hs]at h;cases h
    |some r=>obtain⟨s₂,t₂⟩:=r;rw[hs]at h;rw[stepT_spec hs];exact xV h
noncomputable def sound(p:Om)(h₀:Heap)(s:Ub):Bool:=staticsOk (Pp p.main.body) h₀ s.abs.heap&&namesBound p s.abs.heap&&gensDone s.abs&&laidKept h₀ s.abs.heap
theorem Aj{p q:Om}{loose:List Str}{Xt:Shared->Bool}{α:Type}{Yf:Shared->α}{Ya:World->α}{N n m₀:Nat}{life:Params->Life}{g0:Bool}{H₀:Params->Heap}{T₀:Params->BT}{G7:Array Rr}{d₀:Drawn}{k₀:Nat}{ann:Option Value}
 (Ec:∀w:World,(fencedOpening TC p w N).map (λs=>(s.heap,s.gens,s.drawn,s.toks))=some (H₀ w.params,G7,d₀,k₀))
 (size:∀P:Params,((H₀ P).isNs OG&&G7.size==0,(H₀ P).objs.size,(H₀ P).nsMap OG "__annotations__")=(true,m₀,ann))
 (tree:∀P:Params,absHeap (T₀ P) n (life P)=H₀ P)
 (run:∀(w:World) (os:Pn),∃s,xU TC p w m₀ ann N ⟨T₀ w.params,n,life w.params,G7,d₀,k₀,os⟩ (topStub p)=some s/\sound p (H₀ w.params) s=true/\openSeen q loose (Pp p.main.body) Xt g0 s.abs=openGood q loose/\Yf s.abs=Ya w):LeftO p q loose Xt Yf Ya N g0:=λw=>by
 obtain⟨⟨h,gs,d,k,os⟩,e,e'⟩:=U0.mp (Ec w);obtain⟨rfl,rfl,rfl,rfl⟩:h=H₀ w.params/\gs=G7/\d=d₀/\k=k₀:=by simpa using e'
 obtain⟨z1,z2,z3⟩:_/\_/\_:=by simpa only[Prod.mk.injEq] using size w.params
 obtain⟨s,r,l1,l2,l3⟩:=run w os;have r:=xV r
 have ea:(SharedT.mk (T₀ w.params) n (life w.params) gs d k os).abs=⟨H₀ w.params,gs,d,k,os⟩:=by
  unfold SharedT.abs;rw[tree]
 rw[ea]at r
 have t:topFrom TC p w N ⟨H₀ w.params,gs,d,k,os⟩=some s.abs:=by
  unfold topFrom;dsimp only;rw[z1,z2,z3,r];show (match sound p (H₀ w.params) s with |true=>_ |false=>_)=_;rw[l1]
 unfold openEnds;rw[e];show (topFrom TC p w N _).map _=_;rw[t];exact congrArg some (Ss l2 l3)
theorem Ct{S A B C:Type}{o:Option S}{f:S->A}{g:S->B}{h:S->C}{a:A}{b:B}{c:C}(x:o.map f=some a)(y:o.map g=some b)(z:o.map h=some c):∃s,o=some s/\f s=a/\g s=b/\h s=c:=by
 cases o with
 |none=>cases x
 |some s=>exact⟨s,rfl,Oc x,Oc y,Oc z⟩
theorem four{S A B C D E F G:Type}{o:Option S}{f:S->A×B×C×D×E×F×G}{a:A×B×C×D×E×F×G}(h1:o.map (λs=>(f s).1)=some a.1)(h2:o.map (λs=>((f s).2.1,(f s).2.2.1))=some (a.2.1,a.2.2.1))(h3:o.map (λs=>((f s).2.2.2.1,(f s).2.2.2.2.1))=some (a.2.2.2.1,a.2.2.2.2.1))(h5:o.map (λs=>(f s).2.2.2.2.2.1)=some a.2.2.2.2.2.1)(h4:o.map (λs=>(f s).2.2.2.2.2.2)=some a.2.2.2.2.2.2):o.map f=some a:=by
 cases o with
 |none=>cases h1
 |some s=>
  have e1:(f s).1=a.1:=Oc h1;have e2:((f s).2.1,(f s).2.2.1)=(a.2.1,a.2.2.1):=Oc h2;have e3:((f s).2.2.2.1,(f s).2.2.2.2.1)=(a.2.2.2.1,a.2.2.2.2.1):=Oc h3;have e5:(f s).2.2.2.2.2.1=a.2.2.2.2.2.1:=Oc h5;have e4:(f s).2.2.2.2.2.2=a.2.2.2.2.2.2:=Oc h4;exact congrArg some (Ss e1 (Ss (U1 e2).1 (Ss (U1 e2).2 (Ss (U1 e3).1 (Ss (U1 e3).2 (Ss e5 e4))))))
theorem cut(n:Nat){o:Option Ub}{as:List Addr}{v:List (Option Obj)}(h:o.map (λs=>(as.take n).map s.abs.heap.get?)=some (v.take n))(h':o.map (λs=>(as.drop n).map s.abs.heap.get?)=some (v.drop n)):o.map (λs=>as.map s.abs.heap.get?)=some v:=by
 cases o with
 |none=>cases h
 |some s=>
  have h1:(as.take n).map s.abs.heap.get?=v.take n:=Oc h;have h2:(as.drop n).map s.abs.heap.get?=v.drop n:=Oc h';show some (as.map s.abs.heap.get?)=some v;rw[<-Uc n as,OV,h1,h2,Uc]
end Tt
namespace K60
open PySem PySem.W
noncomputable def tp(i:Nat):Stmt:=À.main.body.getD i (.Pass ⟨0,0,0,0⟩)
noncomputable def view:Om:={À with main:={À.main with body:=[tp 0,tp 2,tp 3,tp 4,tp 5,tp 6,tp 7,tp 8,tp 9,tp 10,tp 11,tp 12,tp 13,tp 14,tp 15,tp 16,tp 17,tp 18,tp 20,tp 21,tp 22,tp 23,tp 24,tp 25,tp 26,tp 27,tp 28,tp 29,tp 30,tp 31,tp 33,tp 34,tp 35,tp 36,tp 37,tp 39,tp 41,tp 42,tp 43,tp 45,tp 46,tp 47,tp 49,tp 50,tp 51,tp 52,tp 53,tp 55,tp 56,tp 57,tp 58,tp 59,tp 61,tp 62,tp 63,tp 64,tp 65,tp 66,tp 67,tp 69,tp 70,tp 71,tp 72,tp 73,tp 74,tp 75,tp 76,tp 77,tp 78,tp 79,tp 80,tp 81,tp 82,tp 83,tp 85,tp 86,tp 87,tp 88,tp 89,tp 91,tp 92,tp 93,tp 94,tp 95,tp 96,tp 97,tp 98,tp 99,tp 100,tp 101,tp 102,tp 104,tp 105,tp 106,tp 107,tp 108,tp 109,tp 110,tp 111,tp 112,tp 113,tp 114,tp 115]}}
noncomputable def tree0(P:Params):BT:=(.node (boot_o_0 P) (.node (boot_o_1 P) (.node (boot_o_3 P) (.node (boot_o_7 P) .nil .nil) .nil) (.node (boot_o_5 P) (.node (boot_o_9 P) .nil .nil) .nil)) (.node (boot_o_2 P) (.node (boot_o_4 P) (.node (boot_o_8 P) .nil .nil) .nil) (.node (boot_o_6 P) (.node (boot_o_10 P) .nil .nil) .nil)))
noncomputable def run(w:World)(os:Pn):Option Ub:=(Tt.xU TC À w 11 (some (Oh 6)) 12100 ⟨tree0 w.params,11,(QY w.params).life,Array.mk [],boot_drawn,boot_toks,os⟩ (topStub À))
noncomputable def lhsS(w:World)(os:Pn):=(run w os).map (λs=>Tt.sound À (QY w.params) s)
noncomputable def lhsA1(w:World)(os:Pn):=(run w os).map (λs=>(openSeen view [] (Pp À.main.body) (λs=>Q7 view [] s&&PV (OY (OU (P4 Á))) s) true s.abs).1)
noncomputable def lhsA2(w:World)(os:Pn):=(run w os).map (λs=>((openSeen view [] (Pp À.main.body) (λs=>Q7 view [] s&&PV (OY (OU (P4 Á))) s) true s.abs).2.1,(openSeen view [] (Pp À.main.body) (λs=>Q7 view [] s&&PV (OY (OU (P4 Á))) s) true s.abs).2.2.1))
noncomputable def lhsA3(w:World)(os:Pn):=(run w os).map (λs=>((openSeen view [] (Pp À.main.body) (λs=>Q7 view [] s&&PV (OY (OU (P4 Á))) s) true s.abs).2.2.2.1,(openSeen view [] (Pp À.main.body) (λs=>Q7 view [] s&&PV (OY (OU (P4 Á))) s) true s.abs).2.2.2.2.1))
noncomputable def lhsA5(w:World)(os:Pn):=(run w os).map (λs=>Vw view [] s.abs)
noncomputable def lhsA4(w:World)(os:Pn):=(run w os).map (λs=>(openSeen view [] (Pp À.main.body) (λs=>Q7 view [] s&&PV (OY (OU (P4 Á))) s) true s.abs).2.2.2.2.2.2)
noncomputable def lhsB(as:List Addr)(w:World)(os:Pn):=(run w os).map (λs=>as.map s.abs.heap.get?)
end K60
noncomputable def PySem.W.Fast.tw14598715356260435866:=VA
theorem PySem.W.Fast.te14598715356260435866:VA=PySem.W.Fast.tw14598715356260435866:=rfl
noncomputable def PySem.W.Fast.tw2494896680412068617:=À
theorem PySem.W.Fast.te2494896680412068617:À=PySem.W.Fast.tw2494896680412068617:=rfl
noncomputable def PySem.W.Fast.tw13899100880601395773:=Vk
theorem PySem.W.Fast.te13899100880601395773:Vk=PySem.W.Fast.tw13899100880601395773:=rfl
lay_quick K60.lhsS K60.lhsA1 K60.lhsA2 K60.lhsA3 K60.lhsA4 K60.lhsA5 K60.lhsB
section
open PySem PySem.W PyProof.Rows
local macro_rules |`(tactic|o_head $H)=>`(tactic|(refine PySem.W.holds_open (q:=K60.view) (loose:=[]) (Xt:=λs=>PySem.W.xlAt K60.view [] s&&PySem.W.recOk (PySem.W.RowW.records (PySem.W.OpenRow.toRowW (PySem.W.OpenLaw.row PySem.Challenge.rw_bandscribe_k60_rows_at_the_desk))) s) (XP:=PySem.W.XL K60.view []) (Yf:=PySem.W.Hook.obs $H) (Ya:=PySem.W.Hook.val $H) (YP:=PySem.W.Hook.says $H) (N:=12100) ?hl (PySem.W.Hook.of $H) (PySem.W.Hook.keeps $H) (λs e=>PySem.W.xl_of s (Bool.and_eq_true_iff.mp e).1) PySem.W.XL.keeps (by rfl) (by rfl) (by rfl) (λs e=>PySem.W.recFacts_of (Bool.and_eq_true_iff.mp e).2) (by rfl) (by first |assumption |decide+kernel) (by decide+kernel) ⟨rfl,rfl,rfl,rfl,rfl,by decide+kernel⟩ ?hw ?hc;(case hl=>(intro w;contradiction))))
theorem K60.pre(h:False):(Á).Holds:=by
 w_on;o_law;k_head
 all_goals contradiction
end
namespace K60
open PySem PySem.W
noncomputable def addrs:List Addr:=[2,3,15,17,18,20,21,22,29,30,31,32,35,42,43,44,47,54,56,57,59,60,61,62,63,66,73,75,76,78,79,80,81,82,85,92,94,95,97,98,99,100,101,104,111,113,114,116,117,118,119,120,123,130,132,133,135,136,137,138,139,142,149,150,151,154,161,162,163,166,173,174,175,178,185,187,188,190,191,192,193,194,197,204,206,207,209,210,211,212,213,216,223,224,225,228,235,237,238,240,241,242,243,244,247,254,255,256,259,266,267,268,271,278,279,280,283,286,287,288,290,291,293,294,295,297,298,300,301,302,304,305,307,308,309,312,313,314,316,317,319,320,321,323,324,326,327,328,330,331,333,334,335,338,339,340,343,344,352,354,355,357,358,359,361,362,364,365,366,368,369,371,372,373,375,376,378,379,380,382,383,385,386,387,389,390,392,393,394,396,397,399,400,401,403,404,406,407,408,410,411,413,414,415,418,419,420,421,422,423,424,427,430,431,432,434,435,437,438,439,442,443,444,446,447,449,450,451,453,454,456,457,458,460,461,463,464,465,467,468,470,471,472,474,475,477,478,479,482,483,484,486,487,489,490,491,493,494,496,497,505,507,508,510,511,512,514,515,517,518,519,522,523,524,526,527,529,530,531,533,534,536,537,538,540,541,543,544,545,548,549,550,552,553,555,556,557,558,559,560,561,564,566,567,569,570,571,573,574,576,577,578,580,581,583,584,585,587,588,590,591,592,595,596,597,600,601,602,605,606,607,609,610,612,613,614,616,617,619,620,621,623,624,626,627,628,631,632,640,643,644,645,646,647,648,649,652,655,656,657,659,660,662,663,664,667,668,669,671,672,674,675,676,679,680,681,683,684,686,687,695,698,699,700,702,703,705,706,707,708,709,710,711,714,716,717,719,720,721,723,724,726,727,728,730,731,733,734,735,738,739,740,743,744,745,748,749,750,752,753,755,756,757,759,760,762,763,764,767,768,769,771,772,774,775,776,778,779,781,782,783,786,787,788,790,791,793,794,795,797,798,800,801,809,812,813,814,816,817,819,820,821,823,824,826,827,828,830,831,833,834,835,837,838,840,841,842,844,845,847,848,849,851,852,854,855,856,859,860,861,863,864,866,867,868,870,871,873,874,875,876,877,878,879,882,885,886,887,890,891,892,894,895,897,898,899,901,902,904,905,906,908,909,911,912,913,916,917,918,920,921,923,924,925,928,929,937,939,940,942,943,944,946,947,949,950,951,953,954,956,957,958,960,961,963,964,965,966,967,968,969,972,974,975,977,978,979,981,982,984,985,986,988,989,991,992,993,996,997,998,1000,1001,1003,1004,1005,1007,1008,1010,1011,1012,1014,1015,1017,1018,1019,1022,1023,1024,1026,1027,1029,1030,1031,1033,1034,1036,1037,1038,1040,1041,1043,1044,1045,1048,1049]
open PyProof.Rows in
theorem pS(w:World)(os:Pn):lhsS w os=some true:=Ra (congrFun (congrFun PySem.W.Fast.te9789683068923364429 w) os) (by kernel_rfl)
open PyProof.Rows in
theorem Kq:looseW view []=[]:=id (by kernel_rfl)
open PyProof.Rows in
theorem GI(w:World)(os:Pn):lhsA5 w os=some (plainGoodE view []):=Ra (congrFun (congrFun PySem.W.Fast.te17154910925708142320 w) os) (by kernel_rfl)
open PyProof.Rows in
theorem p5:∀l,l=[]->∀(w:World) (os:Pn),(run w os).map (λs=>Vw view l s.abs)=some (plainGoodE view l):=λl e w os=>by subst e;exact GI w os
open PyProof.Rows in
theorem Kr(w:World)(os:Pn):(run w os).map (λs=>(openSeen view [] (Pp À.main.body) (λs=>Q7 view [] s&&PV (OY (OU (P4 Á))) s) true s.abs).2.2.2.2.2.1)=some (plainGoodE view (looseW view [])):=p5 (looseW view []) Kq w os
open PyProof.Rows in
theorem Ks(w:World)(os:Pn):lhsA3 w os=some (true,pinGoodD (drecsOf view)):=Ra (congrFun (congrFun PySem.W.Fast.te16340752716821624754 w) os) (by kernel_rfl)
open PyProof.Rows in
theorem Kt(w:World)(os:Pn):lhsA4 w os=some (plainGoodD view [],wideGood view,clsGoodW view []):=Ra (congrFun (congrFun PySem.W.Fast.te8034057916274575 w) os) (by kernel_rfl)
open PyProof.Rows in
theorem Ku(w:World)(os:Pn):lhsA1 w os=some (expectedOf view):=Ra (congrFun (congrFun PySem.W.Fast.te7771767411712185836 w) os) (by kernel_rfl)
open PyProof.Rows in
theorem Kv(w:World)(os:Pn):lhsA2 w os=some (bltViewBooted,true):=Ra (congrFun (congrFun PySem.W.Fast.te12646523423736016656 w) os) (by kernel_rfl)
theorem Kw(w:World)(os:Pn):lhsB (K60.addrs.take 160) w os=some (((K60.pre.heap_39 w.params).map λp=>some p.2).take 160):=Ra (congrFun (congrFun (congrFun PySem.W.Fast.te16818811819515584214 _) w) os) (by kernel_rfl)
theorem Kx(w:World)(os:Pn):lhsB ((K60.addrs.drop 160).take 160) w os=some ((((K60.pre.heap_39 w.params).map λp=>some p.2).drop 160).take 160):=Ra (congrFun (congrFun (congrFun PySem.W.Fast.te16818811819515584214 _) w) os) (by kernel_rfl)
theorem Ky(w:World)(os:Pn):lhsB (((K60.addrs.drop 160).drop 160).take 160) w os=some (((((K60.pre.heap_39 w.params).map λp=>some p.2).drop 160).drop 160).take 160):=Ra (congrFun (congrFun (congrFun PySem.W.Fast.te16818811819515584214 _) w) os) (by kernel_rfl)
theorem Kz(w:World)(os:Pn):lhsB (((K60.addrs.drop 160).drop 160).drop 160) w os=some (((((K60.pre.heap_39 w.params).map λp=>some p.2).drop 160).drop 160).drop 160):=Ra (congrFun (congrFun (congrFun PySem.W.Fast.te16818811819515584214 _) w) os) (by kernel_rfl)
theorem op:opening À=plainProg À.main.scope.names:=by kernel_rfl
theorem fe(s:Shared):fenceModules? À s=some s:=by kernel_rfl
theorem tr(P:Params):absHeap (tree0 P) 11 (QY P).life=QY P:=by kernel_rfl
theorem sz(P:Params):((QY P).isNs OG&&(Array.mk []:Array Rr).size==0,(QY P).objs.size,(QY P).nsMap OG "__annotations__")=(true,11,(some (Oh 6))):=by kernel_rfl
theorem whole:LeftO À view [] (λs=>Q7 view [] s&&PV (OY (OU (P4 Á))) s) (λs=>K60.addrs.map s.heap.get?) (λw=>((K60.pre.heap_39 w.params).map λp=>some p.2)) 12100:=Tt.Aj (H₀:=QY) (T₀:=tree0) (life:=λP=>(QY P).life) (boot_open op (by decide+kernel) fe) sz tr λw os=>Tt.Ct (o:=run w os) (f:=λs=>Tt.sound À (QY w.params) s) (g:=λs=>openSeen view [] (Pp À.main.body) (λs=>Q7 view [] s&&PV (OY (OU (P4 Á))) s) true s.abs) (h:=λs=>K60.addrs.map s.abs.heap.get?) (pS w os) (Tt.four (o:=run w os) (f:=λs=>openSeen view [] (Pp À.main.body) (λs=>Q7 view [] s&&PV (OY (OU (P4 Á))) s) true s.abs) (a:=openGood view []) (Ku w os) (Kv w os) (Ks w os) (Kr w os) (Kt w os)) (Tt.cut (o:=run w os) 160 (Kw w os) (Tt.cut (o:=run w os) 160 (Kx w os) (Tt.cut (o:=run w os) 160 (Ky w os) (Kz w os))))
end K60
open PySem
open AutoSeq1 (wpAny_loadPart')
open PySem.W (Looks looks_findIn looks_typeIn InitBack bind_fn findIn clsIn specialIn readsIn findCls keepIn isFn typeIn InstAt looks_find looks_hook looks_mroIn takesIn mroIn subIn KitX kitOne kitCls kia_one findObj findObj_data class_get handed_on handedOut_of)
open _root_.Option renaming some->ρ,none->τ
section
def fqq(x:Array Lean.Syntax)(a b:Lean.MacroM Lean.Syntax)(f:Lean.Syntax->Lean.MacroM Lean.Syntax):Lean.MacroM (Array Lean.Syntax):=do
 let mut y:=#[]
 for e in x do
  match e.isNatLit? with
  |some n=>for _ in [0:n] do y:=(y.push (←a)).push (←b)
  |none=>y:=y.push (←f e)
 return y
local macro_rules|`(tactic|lia)=>`(tactic|lia-abstractProof)
local macro_rules(kind:=«term{_}»)|`({$x,*})=>do
 let y:=(←fqq x.getElems (`(_)) (`(rfl)) pure).map λe=>(⟨e⟩:Lean.Term)
 `(⟨$y,*⟩)
def fpp:Nat->Lean.Syntax->Lean.MacroM Lean.Syntax
 |0,_=>Lean.Macro.throwUnsupported
 |k+1,s=>do
  let s:=if s.getKind==Lean.choiceKind then (s.getArgs.find? (·.getKind==`«term{_}»)).getD s else s
  if s.isIdent then `(rcasesPat|$(⟨s⟩):ident)
  else if s.getKind==`«term{_}» then
   let y:=(←fqq s[1].getSepArgs (`(rcasesPat|_)) (`(rcasesPat|$(Lean.mkIdent `rfl):ident)) (fpp k)).map λe=>(⟨e⟩:Lean.TSyntax `rcasesPat)
   `(rcasesPat|⟨$[$y:rcasesPat],*⟩)
  else if s.isOfKind `Lean.Parser.Term.hole then `(rcasesPat|_) else Lean.Macro.throwUnsupported
local macro_rules|`(tactic|let $p:term:=$e)=>do
 let q:Lean.TSyntax `rcasesPat:=⟨←fpp 9 p⟩
 `(tactic|obtain $q:rcasesPat:=$e)
local macro_rules|`(($n:num))=>`($(Lean.mkIdent `_L.pv) $n)
local macro_rules|`($x.$i:fieldIdx)=>match i.raw.isFieldIdx? with
 |some 8=>`($(x).heap.objs.size)
 |some 7=>`($(x).objs.size)
 |some 9=>`($(x).length)
 |some 6=>`($(x).toArray)
 |some 5=>`($(x).env)
 |_=>Lean.Macro.throwUnsupported
local macro_rules|`(())=>`(by lia)
local macro_rules|`($x:scientific)=>`(by omega)
local macro_rules|`(∅)=>`(by decide+kernel)
local macro_rules|`(⋯)=>`(by decide)
namespace _L
open PySem.Spec PyProof.Rows
noncomputable abbrev Key:=Sum Int Str
noncomputable def oE:Key->Value->Bool
 |.inl k,v=>Value.isInt k v
 |.inr x,v=>UB x v
noncomputable def GJ(w:World):Key->Int
 |.inl k=>hashInt k
 |.inr x=>hashStr w x
theorem b0:∀{k:Key} {v:Value},oE k v=true->(∃i t,k=Vh i/\v=TF i t)\/(∃x t,k=Ou x/\v=TH x t)
 |.inl i,v,h=>by
  let{t,e}:=Value.isInt_shape (k:=i) (v:=v) h
  exact .inl ⟨i,t,rfl,e⟩
 |.inr x,v,h=>by
  let{t,e}:=UH (x:=x) (v:=v) h
  exact .inr ⟨x,t,rfl,e⟩
theorem w6(i:Int)(t:Tok):oE (.inl i) (.int i t)=true:=by simp[oE,Value.isInt]
theorem w9(x:Str)(t:Tok):oE (.inr x) (.str x t)=true:=by simp[oE,UB]
theorem Cu(a b:Int):decide ((Vh a:Key)=Vh b)=(a==b):=by
 grind
theorem Cv(a b:Str):decide ((Ou a:Key)=Ou b)=decide (a=b):=by simp_all [Key,Rb,decide_eq_false]
theorem Cw(a:Int)(b:Str):decide ((Vh a:Key)=Ou b)=false:=decide_eq_false (λq=>nomatch q)
theorem Cy(a:Str)(b:Int):decide ((Ou a:Key)=Vh b)=false:=decide_eq_false (λq=>nomatch q)
noncomputable def aR(prog:Om)(w:World):PySem.KeyKind prog w Key where
 is:=oE
 hash:=GJ w
 inj:=λv a b ha hb=>by
  rcases b0 ha with⟨i,t,rfl,rfl⟩ |⟨x,t,rfl,rfl⟩
  .rcases b0 hb with⟨j,u,rfl,e⟩ |⟨y,u,rfl,e⟩
   .injection e with e1 _;rw[e1]
   .exact nomatch e
  .rcases b0 hb with⟨j,u,rfl,e⟩ |⟨y,u,rfl,e⟩
   .exact nomatch e
   .injection e with e1 _;rw[e1]
 byValue:=λk v h=>by
   rcases b0 h with⟨i,t,rfl,rfl⟩ |⟨x,t,rfl,rfl⟩<;>rfl
 pyHash:=λhv h=>by
  rcases b0 hv with⟨i,t,rfl,rfl⟩ |⟨x,t,rfl,rfl⟩
  .exact wpAny_pyHash_int h
  .exact wpAny_pyHash_str h
 eqBool:=λhu hv h=>by
  rcases b0 hu with⟨i,t,rfl,rfl⟩ |⟨x,t,rfl,rfl⟩
  .rcases b0 hv with⟨j,u,rfl,rfl⟩ |⟨y,u,rfl,rfl⟩
   .rw[Cu]at h;exact wpAny_eqBool_int h
   .rw[Cw]at h;exact UY i t y u _ _ _ _ h
  .rcases b0 hv with⟨j,u,rfl,rfl⟩ |⟨y,u,rfl,rfl⟩
   .rw[Cy]at h;exact UZ x t j u _ _ _ _ h
   .rw[Cv]at h;exact wpAny_eqBool_str h
 «strs»:=λk x t v h=>by
  rcases b0 h with⟨i,u,rfl,e⟩ |⟨y,u,rfl,e⟩
  .exact nomatch e
  .injection e with e1 _
   subst e1;cases v<;>rfl
theorem rz(prog:Om)(w:World)(i:Int)(t:Tok):(aR prog w).is (.inl i) (.int i t)=true:=w6 i t
theorem rA(prog:Om)(w:World)(x:Str)(t:Tok):(aR prog w).is (.inr x) (.str x t)=true:=w9 x t
set_option genInjectivity true in
inductive V where
 |non |bl (b:Bool) |int (i:Int) |str (x:Str) |byt (b:Array UInt8) |flt (b:UInt64) |ref (a:Addr) |ty (n:String)
 deriving DecidableEq
def RelV:V->Value->Prop
 |.non,u=>u=Pm
 |.bl b,u=>u=Td b
 |.int i,u=>∃t,u=TF i t
 |.str x,u=>∃t,u=TH x t
 |.byt b,u=>∃t,u=Value.bytes b t
 |.flt b,u=>∃t,u=Vx b t
 |.ref a,u=>u=Oh a
 |.ty n,u=>u=Us n
abbrev Vals:List V->List Value->Prop:=Paired RelV
theorem Vals.length{xs:List V}{us:List Value}(r:Vals xs us):xs.9=us.9:=UC r
theorem Vals.get:∀{xs:List V} {us:List Value} {i:Nat} {x:V},Vals xs us->xs[i]?=ρ x->∃u,us[i]?=ρ u/\RelV x u
 |_,_,_,_,.nil,e=>by simp at e
 |_,_,0,_,.cons r _,e=>by simp at e;subst e;exact{_,rfl,r}
 |_,_,i+1,x,.cons _ t,e=>by
  let{u,a,b}:=Vals.get (i:=i) (x:=x) t (by simpa using e)
  exact{u,by simpa using a,b}
theorem Vals.append:∀{xs ys:List V} {us ws:List Value},Vals xs us->Vals ys ws->Vals (xs++ys) (us++ws)
 |_,_,_,_,.nil,s=>s
 |_,_,_,_,.cons r t,s=>.cons r (Vals.append t s)
theorem Vals.take:∀{xs:List V} {us:List Value} (n:Nat),Vals xs us->Vals (xs.take n) (us.take n)
 |_,_,0,_=>.nil
 |_,_,_+1,.nil=>.nil
 |_,_,n+1,.cons r t=>.cons r (Vals.take n t)
theorem Vals.drop:∀{xs:List V} {us:List Value} (n:Nat),Vals xs us->Vals (xs.drop n) (us.drop n)
 |_,_,0,r=>r
 |_,_,_+1,.nil=>.nil
 |_,_,n+1,.cons _ t=>Vals.drop n t
def gd:Option V->Option Value->Prop
 |some v,ρ u=>RelV v u
 |none,τ=>True
 |_,_=>False
def KV{κ:Type}:List (κ×V)->List (κ×Value)->Prop:=Paired λ(p:κ×V) (q:κ×Value)=>p.1=q.1/\RelV p.2 q.2
noncomputable def kV:Key->V
 |.inl i=>.int i
 |.inr x=>.str x
set_option genInjectivity true in
inductive HO where
 |lst (xs:List V)
 |tup (xs:List V)
 |dK (kvs:List (Key×V)) |dT (kvs:List (List Key×V))
 |set (S:Int->Bool) (n:Nat)
 |ins (C dx:Addr) (fs:List (Str×V))
 |own (x:Addr)
 |xd (fs:List (Str×V))
 |met (f x:Addr)
 |rng (lo hi:Int)
 |frz (o:Obj) (u:HO)
 |tbl (ps:Array Value)
 |ext (φ:Heap->Prop)
noncomputable abbrev Hp:=Addr->Option HO
noncomputable def upd(H:Hp)(a:Addr)(o:HO):Hp:=λb=>if b=a then ρ o else H b
theorem a5:upd H a o a=ρ o:=by delta upd;rw[if_pos rfl]
theorem a8(h:b≠a):upd H a o b=H b:=by delta upd;rw[if_neg h]
theorem uU:upd (upd H a o) a u=upd H a u:=by
 funext b;delta upd;split<;>rfl
theorem Ed{H:Hp}{a b:Addr}{o u:HO}(h:H a=ρ o)(h':H b=ρ u)(d:o≠u):a≠b:=by grind [Oc]
theorem ae{H:Hp}{a b:Addr}{o:HO}(h:H a=ρ o)(h':H b=τ):a≠b:=by
 grind
def Rd(H:Hp)(a:Addr)(u:HO):Prop:=H a=ρ u\/∃o,H a=ρ (.frz o u)
def Ee:Option HO->Prop
 |some (.lst _)=>True
 |some (.dK _)=>True
 |some (.dT _)=>True
 |some (.set _ _)=>True
 |some (.ins _ _ _)=>True
 |some (.ext _)=>True
 |_=>False
structure Un(fs ex:List Addr)(H H':Hp)(h h':Heap):Prop where
 keep:∀b o,h.get? b=ρ o->H b=τ->b∉fs->b∉ex->h'.get? b=ρ o
 slot:∀b o,h.get? b=ρ o->H b=τ->b∈fs->b∉ex->∃sl,h'.get? b=ρ {o with slots:=sl}
 free:∀b o,h.get? b=ρ o->H b=τ->b∉ex->H' b=τ
 there:∀b o,h.get? b=ρ o->b∉ex->∃o',h'.get? b=ρ o'
 iZ:∀b xs,H b=ρ (.tup xs)->H' b=ρ (.tup xs)
 iB:∀b o u,H b=ρ (.frz o u)->H' b=ρ (.frz o u)
 j0:∀b ps,H b=ρ (.tbl ps)->∃more,H' b=ρ (.tbl (ps++more))
noncomputable def GK(h:Heap)(H:Hp):List Addr:=(PL h.7).filter λa=>(H a).isSome
noncomputable def pP(h:Heap)(H:Hp):Heap:=PySem.W.hideAll h (GK h H)
theorem wa(h:Heap)(H:Hp):(pP h H).objs.size=h.7:=PySem.W.hideAll_size _ _
theorem xW(e:h.get? b=ρ o)(n:H b=τ):(pP h H).get? b=ρ o:=
 PySem.W.hideAll_get _ e λa=>by
  have q:(H b).isSome=true:=(QC.mp a).2;rw[n]at q;simp at q
theorem Ak(e:(pP h H).get? b=ρ o):h.get? b=ρ o/\H b=τ:=by
 have a:h.get? b=ρ o:=PySem.W.of_hideAll (GK h H) e;refine{a,?_}
 cases q:H b with
 |none=>rfl
 |some x=>
  grind [GK,Oa,pP,PySem.W.hideAll_none]
noncomputable def Al(g h:Heap)(L:Addr):List (Addr×Obj):=(PL h.7).filterMap λa=>if a=L\/(g.get? a).isSome=true then τ else(h.get? a).map λo=>(a,o)
noncomputable def rest(g h:Heap)(L d:Addr):List (Addr×Obj):=(Al g h L).filter λp=>decide (p.1≠d)
structure Mod(K:O4)(mg:Str->Option Value)(base:Heap):Prop where
 BU:K.In base
 glob:base.Ns OG mg
 blt:∃mb,base.Ns Ut mb/\∀x:Str,x≠"__name__"->mb x=P7 x
 nolimit:base.NoLimit
structure Cx where
 prog:Om
 w:World
 K:O4
 mg:Str->Option Value
 base:Heap
 A:Around
 N:List Str
 s₀:Shared
 H₀:Hp
 env:Env
 outer:List Env
 stack:List Env
 ex:List Addr
 fn:Str->Bool
 calm:Bool
 pn:List (Addr×Obj)
 xe:Value->Shared->Prop
noncomputable def lM(l:List Env):List Addr:=l.filterMap (·.frame)
noncomputable abbrev Cx.fs(X:Cx):List Addr:=lM X.outer
def Cz(sc:Qr)(x:Str):Prop:=sc.names.lookup x=ρ .local\/sc.names.lookup x=ρ .cell\/sc.names.lookup x=ρ .free
def Loc(sc:Qr)(x:Str):Prop:=sc.names.lookup x=ρ .local\/sc.names.lookup x=ρ .cell
def Look(env:Env)(h:Heap)(m:Str->Option Value)(x:Str)(u:Value):Prop:=
 (env.kindOf x=ρ .local/\m x=ρ u)\/((env.kindOf x=ρ .cell\/env.kindOf x=ρ .free)/\∃c,env.cells.lookup x=ρ c/\h.IsCell c (ρ u))
structure Cx.Ok(X:Cx):Prop where
 mod:Mod X.K X.mg X.base
 kind:X.env.scope.kind=.function
 glob:X.env.globals=OG
 blt:X.env.builtins=Ut
 above:X.s₀.8<=X.env.locals
 inj:∀x y c,X.env.cells.lookup x=ρ c->X.env.cells.lookup y=ρ c->x=y
 has:∀x,(X.env.kindOf x=ρ .cell\/X.env.kindOf x=ρ .free)->∃c,X.env.cells.lookup x=ρ c
 BV:∀x c,X.fn x=true->X.env.cells.lookup x=ρ c->X.s₀.8<=c
 hd:X.calm=true->X.A.handled=τ
 frames:X.A.frames=ρ X.stack
 CA:X.stack=X.outer\/(X.stack=X.5::X.outer/\X.env.frame=ρ X.env.locals)
 Ef:∀b∈X.ex,b≠X.env.locals/\∀x c,X.env.cells.lookup x=ρ c->c≠b
 bs:∀b o,X.base.get? b=ρ o->X.s₀.heap.get? b=ρ o/\X.H₀ b=τ
 uV:X.base.7<=X.s₀.8
 pQ:∀b o,X.base.get? b=ρ o->b∉X.ex
 tI:∀b∈X.ex,b∉X.fs
 iC:X.s₀.heap.FunFrames X.base X.outer
 A8:∀b∈X.fs,X.H₀ b=τ
theorem j1{N:List Str}(g:N.Nodup){i j:Nat}{x:Str}(a:N[i]?=ρ x)(b:N[j]?=ρ x):i=j:=by
 let{e,c}:=O8.mp a
 let{f,d}:=O8.mp b
 exact(QN g).mp (c.trans d.symm)
noncomputable abbrev XK:=Value->Option Addr->Hp->Prop
noncomputable abbrev St:=List (Option V)
noncomputable abbrev VK:=V->Hp->Prop
noncomputable abbrev TE:=St->Hp->VK->Prop
noncomputable abbrev TT:=St->Hp->(Bool->Hp->Prop)->Prop
noncomputable abbrev TA:=St->Hp->(List V->Hp->Prop)->Prop
structure Bx(p:Prop):Prop where
 go:p
instance {p:Prop}:CoeFun (Bx p) λ_=>p:=⟨Bx.go⟩
theorem bb{α:Type}{t:Sem α}{Q g:α->Shared->Prop}{M:TK}{A:Around}{E:Value->Shared->Prop}{s:Shared}(h:wpAny M A t Q E s)(j:∀a s,Q a s->g a s):wpAny M A t g E s:=OB h j λ_ _ x=>x
inductive fu(i:Nat)(σ:St)(H:Hp)(Q:VK):Prop
 |mk (v) (_:σ[i]?=ρ (ρ v)) (_:Q v H)
def tC(v:V):TE:=λ_ H Q=>Q v H
inductive Jb(x:V)(H:Hp)(Q:Bool->Hp->Prop):Prop
 |mk (c) (_:x=.bl c) (_:Q c H)
def tB(t:TE):TT:=λσ H Q=>t σ H λx H1=>Jb x H1 Q
def Eg(t u:TT):TT:=λσ H Q=>t σ H λc H1=>if c=true then u σ H1 Q else Q false H1
def KA(t u:TT):TT:=λσ H Q=>t σ H λc H1=>if c=true then Q true H1 else u σ H1 Q
def GL(t:TT):TT:=λσ H Q=>t σ H λc H1=>Q (!c) H1
def aK(K:O4)(H:Hp)(a:Addr)(xs:List V):Prop:=
 Rd H a (.lst xs) \/
  ∃(o:Obj) (its:Array Value) (n:Nat),K.lookup a=ρ o/\o.cls=.type "list"/\o.dict=τ/\o.data=.seq its n/\its.size<=sizeLine/\Vals xs its.toList
def eI(K:O4)(H:Hp)(a:Addr)(xs:List V):Prop:=
 Rd H a (.tup xs) \/
  ∃(o:Obj) (its:Array Value) (n:Nat),K.lookup a=ρ o/\o.cls=.type "tuple"/\o.data=.seq its n/\its.size<=sizeLine/\Vals xs its.toList
noncomputable def GN:Value->Option V
 |.none=>ρ .non
 |.bool b=>ρ (.bl b)
 |.int i _=>ρ (.int i)
 |.str x _=>ρ (.str x)
 |.bytes b _=>ρ (.byt b)
 |.float b _=>ρ (.flt b)
 |.ref a=>ρ (.ref a)
 |.type n=>ρ (.ty n)
 |_=>τ
theorem RelV.abs{x:V}{u:Value}(r:RelV x u):GN u=ρ x:=by
 cases x with
 |non=>cases r;rfl
 |bl _=>cases r;rfl
 |int _=>let{t,rfl}:=r;rfl
 |str _=>let{t,rfl}:=r;rfl
 |byt _=>let{t,rfl}:=r;rfl
 |flt _=>let{t,rfl}:=r;rfl
 |ref _=>cases r;rfl
 |ty _=>cases r;rfl
theorem RelV.inj{x y:V}{u:Value}(r:RelV x u)(q:RelV y u):x=y:=Oc (r.abs.symm.trans q.abs)
theorem Vals.inj:∀{xs ys:List V} {us:List Value},Vals xs us->Vals ys us->xs=ys
 |_,_,_,.nil,.nil=>rfl
 |_,_,_,.cons r t,.cons a b=>by rw[r.inj a,Vals.inj t b]
noncomputable abbrev Cx.iD(X:Cx)(E:Value->Shared->Prop):Cx:={X with xe:=E}
noncomputable abbrev Cx.BW(X:Cx):Cx:=X.iD λ_ _=>False
noncomputable abbrev TG:=V->St->Hp->(St->Hp->Prop)->Prop
noncomputable abbrev G8:=List V->St->Hp->(St->Hp->Prop)->Prop
noncomputable abbrev G9:=V->V->Hp->VK->Prop
def gi(i:Nat):TG:=λv σ H Q=>Q (σ.set i (ρ v)) H
inductive GO(vs:List V)(σ:St)(H:Hp)(Q:St->Hp->Prop):Prop
 |mk (_:vs=[]) (_:Q σ H)
inductive Eh(t:TG)(u:G8)(vs:List V)(σ:St)(H:Hp)(Q:St->Hp->Prop):Prop
 |mk (v r) (_:vs=v::r) (_:t v σ H λσ' H'=>u r σ' H' Q)
inductive GP(K:O4)(n:Nat)(t:G8)(v:V)(σ:St)(H:Hp)(Q:St->Hp->Prop):Prop
 |mk (a xs) (_:v=.ref a) (_:eI K H a xs) (_:xs.9=n) (_:t xs σ H Q)
noncomputable def Jc(f:Int->Int->Int):G9:=λx y H Q=>∃i j,x=.int i/\y=.int j/\Q (.int (f i j)) H
structure It where
 go:Nat->Hp->Prop
 tJ:Nat->Hp->V->Hp->Prop
 stop:Nat->Hp->Prop
def ib(X:Cx)(pins:List (Addr×Obj))(H:Hp)(b:Addr):Prop:=
 H b=τ/\b≠X.env.locals/\b∉X.fs/\(b∈X.ex\/X.s₀.8<=b)/\(∀x c,X.env.cells.lookup x=ρ c->c≠b)/\∀p∈X.pn++pins,p.1≠b
noncomputable abbrev TI:=St->Hp->(It->Hp->Prop)->Prop
theorem uW{E:Value->Shared->Prop}{Q:Unit->Shared->Prop}(j:s.heap.get? it=ρ o)(hc:o.cls=.type n)(hd:o.data=.fields vs)
 (hn:["enumerate","zip","dict_itemiterator","dict_reverseitemiterator","odict_iterator","itertools.zip_longest","itertools.pairwise"].contains n=false) (g:Q .unit s):wpAny M A (RY l (.ref it) u) Q E s:=by
 unfold RY
 cases l<;>first
  |exact Oo g
  |(cases u<;>first
     |exact Oo g
     |(refine O6 (wpAny_load j ?_)
       rw[hc,hd];show wpAny M A (if (["enumerate","zip","dict_itemiterator","dict_reverseitemiterator","odict_iterator","itertools.zip_longest","itertools.pairwise"].contains n&&vs[0]?==ρ (rawInt _))=true then _ else _) Q E s;rw[if_neg (by grind)]
       exact Oo g))
noncomputable def DX(K:O4)(a:Addr):It:=
 {λi H=>∃xs x,aK K H a xs/\xs[i]?=ρ x,λi H x H'=>H'=H/\∀xs,aK K H a xs->xs[i]?=ρ x,λi H=>∃xs,aK K H a xs/\xs.9<=i}
noncomputable def BX(lo:Int)(n:Nat):It:={λi _=>i<n,λi H x H'=>H'=H/\x=.int (lo+i),λi _=>n<=i}
def BZ(K:O4)(tl:TE):TI:=λσ H R=>tl σ H λx H1=>∃a,x=.ref a/\(∃xs,aK K H1 a xs)/\R (DX K a) H1
def Ei(ta:TA):TI:=λσ H R=>ta σ H λvs H1=>∃j:Int,vs=[.int j]/\-(2^62)<=j/\j<2^62/\R (BX 0 j.toNat) H1
def Ej(ta:TA):TI:=λσ H R=>ta σ H λvs H1=>∃i j:Int,vs=[.int i,.int j]/\(-(2^62)<=i/\i<2^62/\-(2^62)<=j/\j<2^62)/\R (BX i (j-i).toNat) H1
noncomputable def iE(fp:List Addr)(h:Heap):List (Addr×Obj):=fp.filterMap λb=>(h.get? b).map λo=>(b,o)
theorem bU(g:b∈j)(e:h.get? b=ρ o):(b,o)∈iE j h:=V0.mpr {b,g,by rw[e];rfl}
theorem wc(g:p∈iE j h):p.1∈j/\h.get? p.1=ρ p.2:=by
 let{b,a,e}:=V0.mp g
 cases q:h.get? b with
 |none=>grind
 |some o=>
  grind
noncomputable abbrev R2:=V->V->Hp->VK->Prop
def oF(r:R2)(ta tb:TE):TE:=λσ H Q=>ta σ H λx H1=>tb σ H1 λy H2=>r x y H2 Q
def KB(r:V->Hp->VK->Prop)(ta:TE):TE:=λσ H Q=>ta σ H λx H1=>r x H1 Q
inductive rI(C:Int->Int->Prop)(g:Int->Int->V)(x y:V)(H:Hp)(Q:VK):Prop
 |mk (i j) (_:x=.int i) (_:y=.int j) (_:C i j) (_:Q (g i j) H)
inductive xN(g:Int->Int->V)(x y:V)(H:Hp)(Q:VK):Prop
 |mk (i j) (_:x=.int i) (_:y=.int j) (_:Q (g i j) H)
inductive rU(g:Int->V)(x:V)(H:Hp)(Q:VK):Prop
 |mk (i) (_:x=.int i) (_:Q (g i) H)
def Ek(i j:Int):Prop:=0<j/\j<1073741824
def GQ(i j:Int):Prop:=0<=j/\j<=1000000/\i.natAbs<2^64
def xX(i j:Int):Prop:=(-(2^64)<i/\i<2^64)\/(-(2^64)<j/\j<2^64)
noncomputable def El:V->V->Bool
 |.non,.non=>true |.non,.int _=>true |.int _,.non=>true |.non,.bl _=>true |.bl _,.non=>true |.non,.str _=>true |.str _,.non=>true
 |.int _,.int _=>true |.bl _,.bl _=>true |.str _,.str _=>true |.byt _,.byt _=>true
 |.int _,.str _=>true |.str _,.int _=>true |.bl _,.str _=>true |.str _,.bl _=>true
 |_,_=>false
inductive Jd(x y:V)(H:Hp)(Q:VK):Prop
 |mk (_:El x y=true) (_:Q (.bl (decide (x=y))) H)
inductive KC(x y:V)(H:Hp)(Q:VK):Prop
 |mk (_:El x y=true) (_:Q (.bl (!decide (x=y))) H)
theorem uX:decide (V.int i=V.int j)=(i==j):=by
 rw[RZ];simp
theorem xY:decide (V.bl i=V.bl j)=(i==j):=by
 rw[RZ];simp
theorem uY:decide (V.str i=V.str j)=(i==j):=by
 rw[RZ];simp
theorem uZ:decide (V.byt i=V.byt j)=(i.toList==j.toList):=by
 rw[RZ];cases i;cases j;simp
def va(t:TE):TT:=λσ H Q=>t σ H λx H'=>Jb x H' Q
theorem jW:(sizeLine:Nat)<2^63:=by rw[QI];decide
theorem vals1(r:Vals [x] us):∃u,us=[u]/\RelV x u:=by
 cases r with
 |cons a b=>cases b;exact{_,rfl,a}
theorem vals2(r:Vals [x,y] us):∃u g,us=[u,g]/\RelV x u/\RelV y g:=by
 cases r with
 |cons a b=>
  cases b with
  |cons c d=>cases d;exact{_,1,a,c}
structure tK(h:Heap)(x dx C:Addr)(mA:Str->Option Value):Prop where
 obj:h.get? x=ρ (Qf C dx)
 ns:h.Ns1 dx mA
 ne:dx≠x
noncomputable def cB(f:Str)(v:V):List (Str×V)->List (Str×V)
 |[]=>[(f,v)]
 |(g,x)::r=>if g=f then(g,v)::r else(g,x)::cB f v r
theorem aW(f g:Str)(v:V):∀fs:List (Str×V),(cB f v fs).lookup g=if g=f then ρ v else fs.lookup g
 |[]=>by
  show SE g [(f,v)]=_
  by_cases h:g=f
  .grind
  .grind
 |(k,x)::r=>by
  have a:=aW f g v r;rw[show cB f v ((k,x)::r)=(if k=f then(k,v)::r else(k,x)::cB f v r) from rfl]
  by_cases hk:k=f
  .grind
  .grind
theorem jX(f:Str)(v:V):∀fs:List (Str×V),f∈(cB f v fs).map (·.1)/\∀g,g∈fs.map (·.1)->g∈(cB f v fs).map (·.1)
 |[]=>{by simp[cB],λg h=>by simp at h}
 |(k,x)::r=>by
  let{a,b}:=jX f v r
  rw[show cB f v ((k,x)::r)=(if k=f then(k,v)::r else(k,x)::cB f v r) from rfl]
  by_cases hk:k=f
  .grind
  .grind
theorem kD(f:Str)(v:V):∀fs:List (Str×V),(cB f v fs).9<=fs.9+1
 |[]=>by simp[cB]
 |(k,x)::r=>by
  have a:=kD f v r;rw[show cB f v ((k,x)::r)=(if k=f then(k,v)::r else(k,x)::cB f v r) from rfl]
  by_cases hk:k=f
  .grind
  .grind
theorem gd.lN(r:gd (ρ v) o):∃u,o=ρ u/\RelV v u:=by
 cases o with
 |none=>exact(show False from r).elim
 |some u=>exact⟨u,rfl,r⟩
theorem gd.none_of(r:gd τ o):o=τ:=by grind [gd,cases False]
theorem oG(r:RelV v u):VB u=true:=by
 cases v with
 |non=>cases(show u=Pm from r);rfl
 |bl b=>cases(show u=Td b from r);rfl
 |int i=>let{t,e}:=(show ∃t,u=TF i t from r);cases e;rfl
 |str x=>let{t,e}:=(show ∃t,u=TH x t from r);cases e;rfl
 |byt b=>let{t,e}:=(show ∃t,u=Value.bytes b t from r);cases e;rfl
 |flt b=>let{t,e}:=(show ∃t,u=Vx b t from r);cases e;rfl
 |ref a=>cases(show u=Oh a from r);rfl
 |ty n=>cases(show u=Us n from r);rfl
structure pR(K:O4)(C:Addr):Prop where
 pg:RO K C Str.empty=true
 hd:T1 K C=true
 po:Vl K C=true
 sa:OH K (.ref C) "__setattr__"=ρ (ρ (.builtin "object.__setattr__"))
theorem pR.get{K:O4}{C:Addr}(c:pR K C)(f:Str):RO K C f=true:=c.pg
def aP(K:O4)(C:Addr)(f:Str):Prop:=OH K (.ref C) f=ρ τ
theorem aP.Em{K:O4}{C:Addr}{f:Str}(n:aP K C f):TL K C f=ρ τ:=by
 unfold TL;rw[show OH K (.ref C) f=ρ τ from n];rfl
inductive KD(K:O4)(f:Str)(x:V)(H:Hp)(Q:VK):Prop
 |mk (a C dx fs v) (_:x=.ref a) (_:H a=ρ (.ins C dx fs)) (_:pR K C) (_:aP K C f) (_:fs.lookup f=ρ v) (_:Q v H)
def GR(K:O4)(ta:TE)(f:Str):TE:=λσ H Q=>ta σ H λx H1=>KD K f x H1 Q
theorem tL{A:Around}{C:Addr}{us:List Value}{g:List (Str×Value)}:(A.under (.builtin "type.__call__" {.ref C::us,g})).depth=A.depth+1:=by
 first |rfl |simp[V1,Code.weight,Code.isCreation,Code.isGuard,Code.isCaller,Code.frames,V2,guardIds]
theorem tM{A:Around}{C:Addr}{us:List Value}{g:List (Str×Value)}:(A.under (.builtin "type.__call__" {.ref C::us,g})).units=A.units+1:=by
 first |rfl |simp[V1,Code.cUnits,Code.frames,V2]
def nU:TA:=λ_ H Q=>Q [] H
def mc(ta:TE)(tr:TA):TA:=λσ H Q=>ta σ H λx H1=>tr σ H1 λxs H2=>Q (x::xs) H2
inductive KG(xs:List V)(H:Hp)(Q:VK):Prop
 |mk (_:xs.9<=sizeLine) (_:∀p,H p=τ->Q (.ref p) (upd H p (.tup xs)))
inductive KH(xs:List V)(H:Hp)(Q:VK):Prop
 |mk (_:xs.9<=sizeLine) (_:∀p,H p=τ->Q (.ref p) (upd H p (.lst xs)))
noncomputable abbrev Sp:=List V->Hp->VK->XK->Prop
noncomputable abbrev we:=List Env->Hp->Shared->XK->Value->Shared->Prop
def C0(sp:Sp)(lA:List V)(E:XK)(t:TA):TE:=λσ H Q=>t σ H λvs H1=>sp (vs++lA) H1 Q E
inductive Je(C:Addr)(m:Str)(x:V)(H:Hp)(k:Prop):Prop
 |mk (a dx fs) (_:x=.ref a) (_:H a=ρ (.ins C dx fs)) (_:fs.lookup m=τ) (_:k)
def vb(C:Addr)(m:Str)(sp:Sp)(lA:List V)(E:XK)(ta:TE)(t:TA):TE:=λσ H Q=>ta σ H λx H1=>Je C m x H1 (t σ H1 λvs H2=>sp (x::(vs++lA)) H2 Q E)
def C1(C:Addr)(sp:Sp)(lA:List V)(E:XK)(t:TA):TE:=λσ H Q=>t σ H λvs H1=>∀x dx,H1 x=τ->H1 dx=τ->dx≠x ->
 sp (.ref x::(vs++lA)) (upd (upd H1 dx (.own x)) x (.ins C dx [])) (λv H2=>v=.non/\Q (.ref x) H2) E
def Binds(K:O4)(fd:P0)(ps:List Str)(ds:List Value):Prop:=
 ∀(s:Shared) (us:List Value),K.In s.heap->(us++ds).9=ps.9->BindsTo s fd {us,[]} (ps.zip (us++ds))
theorem Binds.all{K:O4}{fd:P0}{ps:List Str}(h:∀us:List Value,us.9=ps.9->bindArgs fd {us,[]}=pure (ps.zip us)):Binds K fd ps []:=λs us _ hl=>by
 rw[Pq]at hl ⊢;exact .of_eq (h us hl)
structure hG(N P:List Str)(sc:Qr):Prop where
 kind:sc.kind=.function
 co:sc.isCoroutine=false
 gen:sc.isGenerator=false
 nd:N.Nodup
 pre:N.take P.9=P
 par:∀x∈P,sc.names.lookup x=ρ .local\/sc.names.lookup x=ρ .cell
 CC:∀y∈sc.names,y.2≠.free
theorem oH{kindOf:Str->Option NameKind}:∀{binds:List (Str×Value)} {m:Str->Option Value},(∀v,(x,v)∉binds)->bindL kindOf binds m x=m x
 |[],_,_=>rfl
 |(n,v)::r,m,h=>by
  unfold bindL;rw[oH λw hw=>h w (Of _ hw)];split
  .grind
  .rfl
theorem oI{kindOf:Str->Option NameKind}:∀{binds:List (Str×Value)} {m:Str->Option Value},(∀v,(x,v)∉binds)->bindC kindOf binds m x=m x
 |[],_,_=>rfl
 |(n,v)::r,m,h=>by
  unfold bindC;rw[oI λw hw=>h w (Of _ hw)];split
  .rfl
  .grind
theorem oJ{kindOf:Str->Option NameKind}:∀{P:List Str} {vs:List Value} {i:Nat} {m:Str->Option Value},P.Nodup->P[i]?=ρ x->vs[i]?=ρ v->kindOf x=ρ .local ->
 bindL kindOf (P.zip vs) m x=ρ v
 |[],_,_,_,_,h,_,_=>by simp at h
 |_::_,[],_,_,_,_,h,_=>by simp at h
 |p::P,w::vs,0,m,nd,a,b,hk=>by
  simp at a b;subst a;subst b;show bindL kindOf ((p,w)::P.zip vs) m p=_;unfold bindL;rw[oH λv c=>(Qg.mp nd).1 (TN c).1,if_pos hk];simp
 |p::P,w::vs,i+1,m,nd,a,b,hk=>by
  show bindL kindOf ((p,w)::P.zip vs) m x=_;unfold bindL;exact oJ (i:=i) (Qg.mp nd).2 (by simpa using a) (by simpa using b) hk
theorem oK{kindOf:Str->Option NameKind}:∀{P:List Str} {vs:List Value} {i:Nat} {m:Str->Option Value},P.Nodup->P[i]?=ρ x->vs[i]?=ρ v->kindOf x≠ρ .local ->
 bindC kindOf (P.zip vs) m x=ρ v
 |[],_,_,_,_,h,_,_=>by simp at h
 |_::_,[],_,_,_,_,h,_=>by simp at h
 |p::P,w::vs,0,m,nd,a,b,hk=>by
  simp at a b;subst a;subst b;show bindC kindOf ((p,w)::P.zip vs) m p=_;unfold bindC;rw[oI λv c=>(Qg.mp nd).1 (TN c).1,if_neg hk];simp
 |p::P,w::vs,i+1,m,nd,a,b,hk=>by
  show bindC kindOf ((p,w)::P.zip vs) m x=_;unfold bindC;exact oK (i:=i) (Qg.mp nd).2 (by grind) (by grind) hk
noncomputable def start(N:List Str)(vs:List V):St:=vs.map ρ++P9 (N.9-vs.9) τ
theorem rB{sc:Qr}{n:Nat}{x:Str}(h:sc.names.lookup x=ρ .cell):∃c,(RT n sc.names []).lookup x=ρ c:=by
 have q:=U2 sc.names n [] (.inl h);exact Option.isSome_iff_exists.mp q
noncomputable abbrev TO:=St->Hp->(Option Int->Hp->Prop)->Prop
noncomputable def Am:TO:=λ_ H Q=>Q τ H
inductive KI(x:V)(H:Hp)(Q:Option Int->Hp->Prop):Prop
 |mk (i) (_:x=.int i) (_:Q (ρ i) H)
noncomputable def En(t:TE):TO:=λσ H Q=>t σ H λx H1=>KI x H1 Q
noncomputable def C2(n:Nat)(i:Int):Option Nat:=if 0<=i then(if i<n then ρ i.toNat else τ) else if -(n:Int)<=i then ρ (i+n).toNat else τ
noncomputable def iY{α:Type}(xs:List α)(i:Int):Option α:=(C2 xs.length i).bind λj=>xs[j]?
theorem An(h:C2 n i=ρ j):seqIndex? i n=ρ j/\j<n/\-(n:Int)<=i/\i<n:=by
 unfold C2 at h
 by_cases b:0<=i
 .rw[if_pos b]at h
  by_cases a:i<n
  .rw[if_pos a]at h;have e:i.toNat=j:=Oc h;exact{by rw[seqIndex_of b a,e],(),(),a}
  .rw[if_neg a]at h;cases h
 .rw[if_neg b]at h
  by_cases a:-(n:Int)<=i
  .rw[if_pos a]at h;have e:(i+n).toNat=j:=Oc h;exact{by rw[seqIndex_neg () a,e],(),a,()}
  .rw[if_neg a]at h;cases h
theorem lO{α:Type}{xs:List α}{i:Int}{v:α}(h:iY xs i=ρ v):∃j,seqIndex? i xs.9=ρ j/\xs[j]?=ρ v/\j<xs.9/\-(xs.9:Int)<=i/\i<xs.9:=by
 unfold iY at h
 cases e:C2 xs.length i with
 |none=>rw[e]at h;cases h
 |some j=>
  rw[e]at h
  let{a,b,c,d}:=An e
  exact⟨j,a,h,b,c,d⟩
theorem aw{α:Type}{xs:List α}{j:Nat}{v:α}(h:xs[j]?=ρ v):iY xs (j:Int)=ρ v:=by
 have a:j<xs.9:=(O8.mp h).1
 have e:C2 xs.length (j:Int)=ρ j:=by
  unfold C2;rw[if_pos (),if_pos ()];simp
 unfold iY;rw[e];exact h
theorem rC{α:Type}(xs:List α)(v:α):iY (xs++[v]) (-1)=ρ v:=by
 have hl:(xs++[v]).9=xs.9+1:=by simp
 have e:C2 (xs++[v]).length (-1)=ρ xs.9:=by
  unfold C2;rw[hl,if_neg ⋯,if_pos ()];congr 1
  lia
 unfold iY;rw[e];show (xs++[v])[xs.9]?=ρ v;simp
def vc(b:Expr):Prop:=∀o i,U3 b false o i=operate [o,i] (getItem o i)
inductive CF(K:O4)(x y:V)(H:Hp)(Q:VK):Prop
 |mk (p xs i v) (_:x=.ref p) (_:y=.int i) (_:aK K H p xs) (_:iY xs i=ρ v) (_:Q v H)
inductive Eo(K:O4)(x y:V)(H:Hp)(Q:VK):Prop
 |mk (p xs i v) (_:x=.ref p) (_:y=.int i) (_:eI K H p xs) (_:iY xs i=ρ v) (_:Q v H)
inductive GU(x y:V)(H:Hp)(Q:VK):Prop
 |mk (z i c) (_:x=.str z) (_:y=.int i) (_:z.9<=sizeLine) (_:iY z.cps.toList i=ρ c) (_:Q (.str ⟨#[c]⟩) H)
noncomputable def cC:V->Bool
 |.non=>true
 |.bl _=>true
 |.int _=>true
 |.str _=>true
 |_=>false
theorem Vals.one:∀{x:V} {us:List Value},Vals [x] us->∃u,us=[u]/\RelV x u
 |_,_,.cons r .nil=>{_,rfl,r}
theorem Vals.zero:∀{us:List Value},Vals [] us->us=[]
 |_,.nil=>rfl
theorem xZ(h:n<=sizeLine):Rt n=false:=by grind [Rt,decide_eq_false]
inductive pT(x:V)(vs:List V)(H:Hp)(Q:VK):Prop
 |mk (l xs y) (_:x=.ref l) (_:vs=[y]) (_:H l=ρ (.lst xs)) (_:xs.9<sizeLine) (_:Q .non (upd H l (.lst (xs++[y]))))
inductive Ao(x:V)(vs:List V)(H:Hp)(Q:VK):Prop
 |mk (l b xs zs) (_:x=.ref l) (_:vs=[.ref b]) (_:H l=ρ (.lst xs)) (_:H b=ρ (.lst zs)) (_:xs.9+zs.9<=sizeLine) (_:Q .non (upd H l (.lst (xs++zs))))
inductive GV(x y:V)(H:Hp)(Q:VK):Prop
 |mk (l b xs zs) (_:x=.ref l) (_:y=.ref b) (_:H l=ρ (.lst xs)) (_:H b=ρ (.lst zs)) (_:xs.9+zs.9<=sizeLine) (_:∀p,H p=τ->Q (.ref p) (upd H p (.lst (xs++zs))))
theorem rD(r:RelV (kV k) u):(aR P w).is k u=true:=by grind [RelV,kV,aR,rz,rA]
theorem oM:∀{g:List Key} {us:List Value},Vals (g.map kV) us->ItemsAre (aR P w) g us
 |[],_,r=>by rw[Rf]at r;cases r;exact .nil
 |k::g,_,r=>by
  rw[Og]at r
  cases r with
  |cons h t=>exact .cons (rD h) (oM t)
abbrev KT(H:Hp):List (List Key×V)->List (List Key×Addr×Value)->Prop:=Paired λp q=>p.1=q.1/\H q.2.1=ρ (.tup (p.1.map kV))/\RelV p.2 q.2.2
def Ep(i:Expr):Prop:=∀ov iv,U3 i false ov iv=operate [ov,iv] (getItem ov iv)
theorem Ap{prog:Om}{w:World}{A:Around}{E:Value->Shared->Prop}{s:Shared}{env:Env}{value slice:Expr}{pos:Pos}{T id:String}{Q:Value->Shared->Prop}
 (hl:Te (.type T) "__getitem__"=pure (ρ (.builtin id))) (l:Ep slice)
 (h:wpAny (model prog w) A (eval value env) (λo j=>wpAny (model prog w) A (eval slice env) (λi g=>g.TypeIs o T/\wpAny (model prog w) A (getItem o i) Q E g) E j) E s) :
 wpAny (model prog w) A (eval (.Subscript value slice pos) env) Q E s:=by
 refine Uu (OB h (λo j c=>OB c (λi g a=>?_) λ_ _ x=>x) λ_ _ x=>x)
 let{e,a}:=a
 unfold UD;refine O6 ?_;rw[getitemInPython_of_ne e.not_modules];refine O6 (wpAny_specialOf e hl ?_)
 have fin:wpAny (model prog w) A (U3 slice false o i) (λr b=>wpAny (model prog w) A (letTemporaryGo value o r >>= λ_=>pure r) Q E b) E g:=by
  rw[l o i];exact wpAny_operating (OB a (λr b d=>O6 (wpAny_letTemporaryGo (Oo d))) λ_ _ x=>x)
 first
  |exact Oo (O6 fin)
  |exact O6 (Oo (O6 fin))
  |exact O6 fin
def CG:TE:=λ_ H Q=>∀p,H p=τ->Q (.ref p) (upd H p (.dK []))
def tN:List (TE×TE)->St->Hp->(List (V×V)->Hp->Prop)->Prop
 |[],_,H,Q=>Q [] H
 |(tk,tv)::r,σ,H,Q=>tk σ H λx H1=>tv σ H1 λy H2=>tN r σ H2 λps H3=>Q ((x,y)::ps) H3
abbrev VV:List (V×V)->List (Value×Value)->Prop:=Paired λp q=>RelV p.1 q.1/\RelV p.2 q.2
theorem oN:∀{vs:List Value} {ns:List Int},IntsAre vs ns->Vals (ns.map V.int) vs
 |_,_,.nil=>.nil
 |_,_,.cons n t h=>.cons ⟨t,rfl⟩ (oN h)
def Only(H:Hp):Prop:=∀b,H b=τ\/∃o xs,H b=ρ (.frz o (.lst xs))
noncomputable abbrev N0{K:O4}{h:Heap}(_:K.In h):O4:=K
noncomputable def inClass(s:Stmt)(j:Nat):Stmt:=match s with
 |.ClassDef _ _ _ body _ _ _ _ _ _ _=>body.getD j (.Pass ⟨0,0,0,0⟩)
 |_=>.Pass ⟨0,0,0,0⟩
noncomputable def bC(s:Stmt):Arguments:=match s with
 |.FunctionDef _ a _ _ _ _ _ _ _ _=>a
 |_=>{posonlyargs:=[],args:=[],vararg:=τ,kwonlyargs:=[],kw_defaults:=[],kwarg:=τ,defaults:=[]}
noncomputable def bc(s:Stmt):List Stmt:=match s with
 |.FunctionDef _ _ b _ _ _ _ _ _ _=>b
 |_=>[]
noncomputable def ak(s:Stmt):Qr:=match s with
 |.FunctionDef _ _ _ _ _ _ sc _ _ _=>sc
 |_=>{kind:=.function,names:=[],isGenerator:=false,isCoroutine:=false}
noncomputable abbrev dk:we:=λ_ _ _ _ _ _=>False
abbrev E0:XK:=λ_ _ _=>False
structure oO(K:O4)(x qual:Str)(st:Stmt)(f:Addr)(fd:P0):Prop where
 ex:∃(oc:Value) (od:Option Addr) (kV doc pm:Value) (an:Option Addr) (hH ct:Value) (y0:Array (Option Value)),
  fd=Qh x qual (bC st) (bc st) (ak st) .none kV doc pm an hH ct/\K.lookup f=ρ {oc,od,.func fd,y0}/\RC K hH qual=true
 kp:QL K (.ref f)=true
theorem cR(h:n<=1000):n<sizeLine:=QZ h ⋯
theorem aC{A B:Prop}(h:B):if false=true then A else B:=by
 grind
theorem bH{A B:Prop}(h:A):if true=true then A else B:=by
 grind
theorem tO{c A B:Prop}[Decidable c](g:c->A)(j:¬c->B):if c then A else B:=by
 by_cases h:c
 .rw[if_pos h];exact g h
 .rw[if_neg h];exact j h
def a7(H H':Hp):Prop:=∀b o,H b=ρ o->H' b=ρ o
theorem a7.trans(a:a7 H g)(b:a7 g j):a7 H j:=λc o h=>b c o (a c o h)
theorem a7.free(e:a7 H g)(h:g l=Option.none):H l=Option.none:=by
 cases q:H l with
 |none=>rfl
 |some o=>
  rw[e l o q]at h;cases h
theorem a7.seq{K:O4}{H g:Hp}{a:Addr}{xs:List V}(e:a7 H g)(h:aK K H a xs):aK K g a xs:=by
 rcases h with(h |⟨o,h⟩) |h
 .exact .inl (.inl (e _ _ h))
 .exact .inl (.inr {o,e _ _ h})
 .exact .inr h
theorem a7.upd(h:H a=τ):a7 H (upd H a o):=λb u e=>by rw[a8 (ae e h)];exact e
abbrev C3(nm:String):Prop:=["enumerate","zip","dict_itemiterator","dict_reverseitemiterator","odict_iterator","itertools.zip_longest","itertools.pairwise"].contains nm=false
noncomputable def oP(z:Str)(i:Nat):V:=.str {#[z.cps.getD i 0]}
noncomputable def b2(z:Str):List V:=z.cps.toList.map λc=>V.str {#[c]}
def y1(scope:Qr)(env:Env):Prop:=∀y∈scope.names,y.2=.free->env.kindOf y.1=ρ .cell\/env.kindOf y.1=ρ .free
def y2:TT:=λ_ H Q=>Q true H
def Er{α:Type}:Nat->(List α->Prop)->Prop
 |0,P=>P []
 |n+1,P=>∀a,Er n λus=>P (a::us)
noncomputable def pick(σ:St)(ix:List Nat):St:=ix.map λi=>(σ[i]?).join
theorem tP:∀{us:List Value},Vals (ns.map V.str) us->StrsAre us ns:=by
 induction ns with
 |nil=>intro us r;rw[Rf]at r;cases r;exact .nil
 |cons n ns a=>
  intro us r;rw[Og]at r
  cases r with
  |cons b c=>
   let{t,e}:=b
   subst e;exact .cons n t (a c)
theorem oQ:∀{vs:List Value} {ns:List Str},StrsAre vs ns->Vals (ns.map V.str) vs
 |_,_,.nil=>.nil
 |_,_,.cons n t h=>.cons ⟨t,rfl⟩ (oQ h)
noncomputable def rE(v d:Addr):HO:=.ext λh=>h.IsValuesView v d
theorem wg{b e i:Addr}(h:b∉[e,i]):b≠e/\b≠i:=by simpa using h
theorem Es{e i n:Nat}(h:e<n)(h':i<n):∀b∈[e,i],b<n:=by simp[h,h']
theorem fM:P7 "enumerate"=ρ (.type "enumerate"):=∅
theorem sub_str_set:isSubtype (.type "str") (.type "set")=pure false:=by rw[isSubtype_type];kernel_rfl
theorem sub_str_frozenset:isSubtype (.type "str") (.type "frozenset")=pure false:=by rw[isSubtype_type];kernel_rfl
theorem C4(P:Om)(w:World)(x:Str)(t:Tok):(Px P w).is x (.str x t)=true:=by simp[Px,UB]
noncomputable def bD(x:Str)(i:Nat):Str:={#[x.cps.getD i 0]}
noncomputable def Aq(P:Om)(w:World)(a:Addr)(n:Nat):HO:=.ext λh=>∃S,h.SetOf (Px P w) a S n
structure FnAt(K:O4)(mg:Str->Option Value)(nm:Str)(st:Stmt)(ps:List Str)(f:Addr)(fd:P0):Prop where
 F:oO K nm nm st f fd
 b:Binds K fd ps []
 g:mg nm=ρ (.ref f)
theorem y3{c A B:Prop}[Decidable c](h:¬c)(b:B):if c then A else B:=by
 rw[if_neg h];exact b
theorem Et{c A B:Prop}[Decidable c](h:c)(a:A):if c then A else B:=by
 rw[if_pos h];exact a
theorem aa(h:n<=1000000):n<=sizeLine:=Od h (by rw[QI];decide)
theorem hI(ps:List Str):(ps.map V.str).all cC=true:=by
 rw[V3];exact OD.mpr λ_ _=>rfl
noncomputable def bM(mv:List (Str×Addr)):List (Key×V):=mv.map λm=>((Ou m.1:Key),V.ref m.2)
theorem iF(mv:List (Str×Addr)):((bM mv).map λg=>kV g.1)=(mv.map (·.1)).map V.str:=by
 unfold bM;rw[OS,OS];rfl
theorem vd{R:Str->Prop}:∀{ys:List V},(∀y∈ys,∃t,y=.str t/\R t)->∃g:List Str,ys=g.map V.str/\∀t∈g,R t
 |[],_=>{[],rfl,λ_ h=>nomatch h}
 |y::ys,h=>by
  let{t,rfl,c}:=h y (Ot ..)
  let{g,rfl,a}:=vd (R:=R) (ys:=ys) λy d=>h y (Of _ d)
  refine{t::g,rfl,λu b=>?_};rcases Oi.mp b with rfl |b
  .exact c
  .exact a u b
structure A9(lo:Nat)(H:Hp)(h:Heap)(e C:Addr)(od:Option Addr):Prop where
 ge:lo<=e
 nt:H e=τ
 ob:∃vs sl,h.get? e=ρ {.ref C,od,.fields vs,sl}/\1<vs.size /\
  (vs[1]?=ρ .none\/∃T oT ts,vs[1]?=ρ (.ref T)/\lo<=T/\H T=τ/\T≠e/\h.get? T=ρ oT/\oT.data=.fields ts/\ts[3]?=ρ .none)
noncomputable abbrev ve(C d t:Addr):Obj:={cls:=.ref C,dict:=ρ d,data:=.fields #[.ref t,.none,.none,.none,.bool false,.none]}
noncomputable def XD(x C d:Addr):HO:=.ext λh=>∃t,h.get? x=ρ (ve C d t)
theorem CH(h:H x=ρ o):upd H x o=H:=by
 funext b;delta upd;split
 .rename_i e;rw[e,h]
 .rfl
noncomputable def del(H:Hp)(x:Addr):Hp:=λb=>if b=x then τ else H b
theorem cD:del H x x=τ:=if_pos rfl
theorem dm(h:b≠x):del H x b=H b:=if_neg h
theorem vf(h:H x=τ):del (upd H x o) x=H:=by
 funext b
 by_cases e:b=x
 .rw[e,cD,h]
 .rw[dm e,a8 e]
theorem tQ(h:d≠x):del (upd H d o) x=upd (del H x) d o:=by
 funext b
 by_cases e:b=x
 .subst e;rw[cD,a8 (Pz h),cD]
 .rw[dm e]
  by_cases a:b=d
  .subst a;rw[a5,a5]
  .rw[a8 a,a8 a,dm e]
theorem pU:del (upd H x o) x=del H x:=by
 funext b
 by_cases e:b=x
 .rw[e,cD,cD]
 .rw[dm e,dm e,a8 e]
noncomputable abbrev TJ:=Str->St->Hp->(Str->Hp->Prop)->Prop
noncomputable abbrev Eu:=XK->TE
noncomputable abbrev Cx.marked(X:Cx)(e:Addr):Cx:={X with A:=X.A.mark (ρ (.ref e)),calm:=false}
noncomputable def XC(x C:Addr)(od:Option Addr):HO:=.ext λh=>∃vs sl,h.get? x=ρ ⟨.ref C,od,.fields vs,sl⟩
noncomputable def y4(z:Str):It:={λi _=>i<z.cps.size,λi H x H'=>∃T,H T=τ/\x=.ref T/\H'=upd H T (.tup [.int (i:Nat),oP z i]),λi _=>z.cps.size<=i}
def CI(ta:TA):TI:=λσ H R=>ta σ H λvs H1=>∃z,vs=[.str z]/\R (y4 z) H1
theorem CJ(v:V):V.bl (decide (v=v))=V.bl true:=by simp
theorem CK(v:V):V.bl (!decide (v=v))=V.bl false:=by simp
theorem CL(z:Str):V.bl (decide (V.str z=V.non))=V.bl false:=by simp
theorem md:∀{ns:List Int} {g:List Value},Vals (ns.map V.int) g->∃xs:List (Int×Tok),g=xs.map (λp=>TF p.1 p.2)/\xs.map (·.1)=ns
 |[],g,r=>by cases r;exact{[],rfl,rfl}
 |n::ns,g,r=>by
  cases r with
  |cons h t=>
   let{a,rfl}:=h
   let{xs,rfl,e}:=md t
   exact{(n,a)::xs,rfl,by rw[Og,e]}
noncomputable def tR(v:V):Bool:=!decide (v=.non)
set_option genInjectivity true in
inductive Ew where
 |at (v:V)
 |tup (ds:List Ew)
 |lst (ds:List Ew)
noncomputable def CM:V->Bool
 |.non=>true
 |.bl _=>true
 |.int _=>true
 |.str _=>true
 |_=>false
mutual
def Jf(K:O4)(H:Hp):Ew->V->Prop
 |.at x,v=>v=x/\CM x=true
 |.tup ds,v=>∃a xs,v=.ref a/\H a=ρ (.tup xs)/\Ar K H ds xs
 |.lst ds,v=>∃a xs,v=.ref a/\Rd H a (.lst xs)/\Ar K H ds xs
def Ar(K:O4)(H:Hp):List Ew->List V->Prop
 |[],xs=>xs=[]
 |d::ds,xs=>∃v vs,xs=v::vs/\Jf K H d v/\Ar K H ds vs
end
noncomputable def C5(q:Str×Str):Ew:=.tup [.at (.str q.1),.at (.str q.2)]
noncomputable def dN(H H':Hp):Hp:=λa=>match H a with
 |none=>H' a
 |some _=>τ
theorem hJ(H g:Hp):a7 (dN H g) g:=λa o e=>by
 grind [dN]
theorem me(h:H a=τ)(e:g a=ρ o):dN H g a=ρ o:=by
 unfold dN;rw[h];exact e
set_option genInjectivity true in
inductive Lt where
 |fl (v:V)
 |ls (vs:List V)
 |tp (vs:List V)
 deriving DecidableEq
section
variable{X:Cx}{a b:Expr}{ta tb:TE}
def Gl(X:Cx)(x:Str):Prop:=X.env.kindOf x=ρ .globalImplicit
theorem y6(b:Expr)(h:op≠.In)(g:op≠.NotIn):QV op b=false:=by
 have a:(op==CmpOp.In)=false:=by grind
 have c:(op==CmpOp.NotIn)=false:=by grind
 cases b<;>simp[QV,a,c]
def Ex(ta tb:TE):TE:=λσ H Q=>ta σ H λx H1=>∃c,x=.bl c/\if c=true then tb σ H1 Q else Q (.bl false) H1
def Ey(ta:TE):TE:=λσ H Q=>ta σ H λx H1=>∃c,x=.bl c/\Q (.bl (!c)) H1
def KJ(t:TT)(ta tb:TE):TE:=λσ H Q=>t σ H λc H1=>if c=true then ta σ H1 Q else tb σ H1 Q
theorem fv(b:Expr)(h:op≠.In:=by decide)(g:op≠.NotIn:=by decide):QV op b=false:=by
 have a:(op==CmpOp.In)=false:=by grind
 have c:(op==CmpOp.NotIn)=false:=by grind
 cases b<;>simp[QV,a,c]
noncomputable def wh:V->V->Bool
 |.non,.non=>true
 |.bl a,.bl b=>a==b
 |.bl a,.int b=>(if a then 1 else 0)==b
 |.int a,.bl b=>a==(if b then 1 else 0)
 |.int a,.int b=>a==b
 |.str a,.str b=>a==b
 |_,_=>false
theorem y7(j:RelV y u)(g:RelV x v)(o:cC y=true)(l:cC x=true):SeqAt.EqAt A s u v (wh y x):=by
 cases y with
 |non=>
  cases j
  cases x with
  |non=>cases g;exact TQ _
  |bl b=>cases g;exact SeqAt.EqAt.none_bool b
  |int b=>let{t,rfl}:=g;exact SeqAt.EqAt.none_int b t
  |str b=>let{t,rfl}:=g;exact SeqAt.EqAt.none_str b t
  |_=>exact absurd (show false=true from l) Oj
 |bl a=>
  cases j
  cases x with
  |non=>cases g;exact SeqAt.EqAt.bool_none a
  |bl b=>cases g;exact SeqAt.EqAt.bool_bool a b
  |int b=>let{t,rfl}:=g;exact SeqAt.EqAt.bool_int a b t
  |str b=>let{t,rfl}:=g;exact SeqAt.EqAt.bool_str a b t
  |_=>exact absurd (show false=true from l) Oj
 |int a=>
  let{c,rfl}:=j
  cases x with
  |non=>cases g;exact SeqAt.EqAt.int_none a c
  |bl b=>cases g;exact SeqAt.EqAt.int_bool a c b
  |int b=>let{t,rfl}:=g;exact SeqAt.EqAt.int_int a c b t
  |str b=>let{t,rfl}:=g;exact UY a c b t
  |_=>exact absurd (show false=true from l) Oj
 |str a=>
  let{c,rfl}:=j
  cases x with
  |non=>cases g;exact SeqAt.EqAt.str_none a c
  |bl b=>cases g;exact SeqAt.EqAt.str_bool a c b
  |int b=>let{t,rfl}:=g;exact UZ a c b t
  |str b=>let{t,rfl}:=g;exact SeqAt.EqAt.str_str a c b t
  |_=>exact absurd (show false=true from l) Oj
 |_=>exact absurd (show false=true from o) Oj
noncomputable def tS(x:V)(u:Value):Bool:=match u with
 |.none=>wh .non x
 |.bool b=>wh (.bl b) x
 |.int i _=>wh (.int i) x
 |.str z _=>wh (.str z) x
 |_=>false
theorem y8(r:RelV y u)(f:cC y=true):tS x u=wh y x:=by
 cases y with
 |non=>cases r;rfl
 |bl b=>cases r;rfl
 |int i=>let{t,rfl}:=r;rfl
 |str z=>let{t,rfl}:=r;rfl
 |_=>exact absurd (show false=true from f) Oj
theorem gj(g:RelV x v)(j:cC x=true):∀{xs:List V} {us:List Value},Vals xs us->xs.all cC=true->∀u∈us,SeqAt.EqAt A s u v (tS x u)
 |_,_,.nil,_=>λu a=>by cases a
 |y::xs,u::us,.cons r t,f=>λb a=>by
  rw[UE,QO]at f;rcases Oi.mp a with rfl |a
  .rw[y8 r f.1];exact y7 r g f.1 j
  .exact gj g j t f.2 b a
noncomputable def rF:List V->List V->Bool
 |[],[]=>true
 |x::xs,y::ys=>wh x y&&rF xs ys
 |_,_=>false
end
section
variable{κ:Type}[DecidableEq κ]
noncomputable def dO(kvs:List (κ×V))(k:κ):Option V:=(kvs.find? λkv=>decide (kv.1=k)).map (·.2)
theorem eO{p:κ×V}{r:List (κ×V)}{k:κ}(e:p.1=k):dO (p::r) k=ρ p.2:=by simp[dO,R0,e]
theorem eP{p:κ×V}{r:List (κ×V)}{k:κ}(e:¬p.1=k):dO (p::r) k=dO r k:=by simp[dO,R0,e]
theorem gd.jY(r:gd o u):o.isSome=u.isSome:=by
 cases o with
 |none=>cases u with
  |none=>rfl
  |some _=>exact(show False from r).elim
 |some _=>cases u with
  |none=>exact(show False from r).elim
  |some _=>rfl
theorem KV.val{kvs:List (κ×V)}{vs:List (κ×Value)}(r:KV kvs vs)(k:κ):gd (dO kvs k) (valueAt vs k):=by
 unfold KV at r
 induction r with
 |nil=>exact PN
 |@cons p q ps a h t f=>
  let{d,g}:=h
  by_cases e:p.1=k
  .have c:q.1=k:=d.symm.trans e;have b:valueAt (q::a) k=ρ q.2:=by simp[valueAt,R0,c]
   rw[eO e,b];exact g
  .have c:¬q.1=k:=λz=>e (d.trans z);have b:valueAt (q::a) k=valueAt a k:=by simp[valueAt,R0,c]
   rw[eP e,b];exact f
theorem KV.repl(r:KV kvs vs)(k:κ)(j:RelV y u) :
 KV (kvs.map λg=>if g.1=k then(g.1,y) else g) (vs.map λg=>if g.1=k then(g.1,u) else g):=by
 unfold KV at r ⊢
 induction r with
 |nil=>exact .nil
 |@cons p q ps d h t b=>
  rw[Og,Og];refine .cons ?_ b
  let{a,c}:=h
  by_cases e:p.1=k
  .rw[if_pos e,if_pos (a.symm.trans e)];exact⟨a,j⟩
  .rw[if_neg e,if_neg (λz=>e (a.trans z))];exact⟨a,c⟩
theorem KV.keys{kvs:List (κ×V)}{vs:List (κ×Value)}(r:KV kvs vs):kvs.map (·.1)=vs.map (·.1):=by
 unfold KV at r
 induction r with
 |nil=>rfl
 |cons h t a=>grind
theorem KV.length{kvs:List (κ×V)}{vs:List (κ×Value)}(r:KV kvs vs):kvs.9=vs.9:=UC r
end
section
variable{t:TA}
def GW(t:TA):TE:=λσ H Q=>t σ H λxs H1=>KG xs H1 Q
def GX(t:TA):TE:=λσ H Q=>t σ H λxs H1=>KH xs H1 Q
theorem KT.val{H:Hp}{kvs:List (List Key×V)}{xs:List (List Key×Addr×Value)}(r:KT H kvs xs)(k:List Key):gd (dO kvs k) ((atKey xs k).map (·.2)):=by
 induction r with
 |nil=>exact PN
 |@cons p q ps a h t f=>
  let{d,_,g}:=h
  by_cases e:p.1=k
  .have c:q.1=k:=d.symm.trans e;have b:atKey (q::a) k=ρ q.2:=by simp[atKey,R0,c]
   rw[eO e,b];exact g
  .have c:¬q.1=k:=λz=>e (d.trans z);have b:atKey (q::a) k=atKey a k:=by simp[atKey,R0,c]
   rw[eP e,b];exact f
theorem KT.repl(r:KT H kvs xs)(k:List Key)(j:RelV y u) :
 KT H (kvs.map λg=>if g.1=k then(g.1,y) else g) (xs.map (putAt k u)):=by
 induction r with
 |nil=>exact .nil
 |@cons p q ps f h t c=>
  rw[Og,Og];refine .cons ?_ c
  let{a,b,d}:=h
  unfold putAt
  by_cases e:p.1=k
  .rw[if_pos e,if_pos (a.symm.trans e)];exact⟨a,b,j⟩
  .rw[if_neg e,if_neg (λz=>e (a.trans z))];exact⟨a,b,d⟩
def eJ(H:Hp)(a:Addr)(y:V)(r:Option V):Prop:=
 (∃kvs k,Rd H a (.dK kvs)/\y=kV k/\r=dO kvs k)\/∃kvs k b,Rd H a (.dT kvs)/\y=.ref b/\H b=ρ (.tup (k.map kV))/\r=dO kvs k
theorem eJ.k{H:Hp}{a:Addr}{kvs:List (Key×V)}{k:Key}(e:H a=ρ (.dK kvs)):eJ H a (kV k) (dO kvs k):=.inl {kvs,k,.inl e,rfl,rfl}
def Ez(td ty:TE):TE:=λσ H Q=>td σ H λx H1=>ty σ H1 λy H2=>∃a v,x=.ref a/\eJ H2 a y (ρ v)/\Q v H2
def As(ty td:TE):TE:=λσ H Q=>ty σ H λy H1=>td σ H1 λx H2=>∃a o,x=.ref a/\eJ H2 a y o/\Q (.bl (!o.isSome)) H2
structure pV(J:It)(Ok:Hp->Prop)(xs:List V):Prop where
 go:∀i H,Ok H->i<xs.9->J.go i H
 tJ:∀i H x H',Ok H->i<xs.9->J.tJ i H x H'->H'=H/\xs[i]?=ρ x
 stop:∀H,Ok H->J.stop xs.length H
theorem cm(K:O4)(a:Addr)(xs:List V):pV (DX K a) (λH=>aK K H a xs) xs:=
 {λi H q hi=>{xs,xs[i],q,by simp[hi]},λi H x b q _ y=>{y.1,y.2 xs q},λH q=>{xs,q,Ob _}}
noncomputable def Ga(n:Nat)(val:Nat->V):It:={λi _=>i<n,λi H x H'=>H'=H/\x=val i,λi _=>n<=i}
theorem CO{val:Nat->V}(hn:xs.9=n)(g:∀i x,xs[i]?=ρ x->val i=x):pV (Ga n val) (λ_=>True) xs:=by
 subst hn;refine{λi H _ hi=>hi,λi H x a _ hi y=>{y.1,?_},λH _=>Ob _};have e:xs[i]?=ρ xs[i]:=by simp[hi]
 rw[e,y.2,g i _ e]
theorem tT(lo:Int)(n:Nat):pV (BX lo n) (λ_=>True) ((PL n).map λi=>V.int (lo+(i:Nat))):=by
 refine{λi H _ hi=>(show i<n by simpa using hi),λi H x b _ hi y=>{y.1,?_},λH _=>?_}
 .have a:i<n:=by simpa using hi
  rw[y.2];simp[a]
 .show n<=_;simp
theorem d9(z:Str):pV (Ga z.cps.size (oP z)) (λ_=>True) (b2 z):=by simp_all [CO,b2,OC,Oc,QD,oP,Qx]
def EA(tl:TE):TI:=λσ H R=>tl σ H λx H1=>∃z,x=.str z/\R (Ga z.cps.size (oP z)) H1
def j2(J:It)(l:Addr)(σf:St)(tt:TT)(te:TE)(H:Hp)(Q:Hp->Prop):Prop:=
 ∃W:Nat->Nat->List V->Hp->Prop,(∃m,W 0 m [] (upd H l (.lst [])))/\∀i m ys H2,W i m ys H2->H2 l=ρ (.lst ys) /\
  ((J.stop i H2/\Q H2)\/(J.go i H2/\ys.9<sizeLine/\∀x H3,J.tJ i H2 x H3->tt (ρ x::σf) H3 λb H4=>
    if b=true then te (ρ x::σf) H4 λy H5=>H5 l=ρ (.lst ys)/\∃m',m'<m/\W (i+1) m' (ys++[y]) (upd H5 l (.lst (ys++[y])))
    else ∃m',m'<m/\W (i+1) m' ys H4))
def vg(g:TG)(n:Nat)(J:It)(l:Addr)(σf:St)(tt:TT)(te:TE)(H:Hp)(Q:Hp->Prop):Prop:=
 ∃W:Nat->Nat->List V->Hp->Prop,(∃m,W 0 m [] (upd H l (.lst [])))/\∀i m ys H2,W i m ys H2->H2 l=ρ (.lst ys) /\
  ((J.stop i H2/\Q H2)\/(J.go i H2/\ys.9<sizeLine/\∀x H3 vs,vs.9=n->J.tJ i H2 x H3->g x (vs++σf) H3 λσ' H'=>(∃EB,EB.length=n/\σ'=EB++σf)/\tt σ' H' λb H4=>
    if b=true then te σ' H4 λy H5=>H5 l=ρ (.lst ys)/\∃m',m'<m/\W (i+1) m' (ys++[y]) (upd H5 l (.lst (ys++[y])))
    else ∃m',m'<m/\W (i+1) m' ys H4))
theorem y9{α:Type}:∀n P,Er n P->∀us:List α,us.9=n->P us
 |0,_,h,[],_=>h
 |n+1,_,h,a::us,e=>y9 n _ (h a) us (Nat.succ.inj e)
def ya(wi:TI)(ix:List Nat)(tt:TT)(te:TE):TE:=λσ H Q=>wi σ H λJ H1=>∀l,H1 l=τ->j2 J l (pick σ ix) tt te H1 (λH2=>Q (.ref l) H2)
structure d2(X:Cx)(scope:Qr)(x:Str)(ys:List Str)(ix:List Nat):Prop where
 kind:scope.kind=.function
 yc:∀y∈scope.names,y.2≠.cell
 names:∀y∈scope.names,y.2=.local->scope.names.lookup y.1=ρ .local
 var:scope.names.lookup x=ρ .local
 free:y1 scope X.5
 nd:(x::ys).Nodup
 len:ix.9=ys.9
 slots:∀(j:Nat) (y:Str),ys[j]?=ρ y->∃i:Nat,ix[j]?=ρ i/\X.N[i]?=ρ y/\(X.env.scope.names.lookup y=ρ .cell\/X.env.scope.names.lookup y=ρ .free)/\scope.names.lookup y=ρ .free
theorem yd(h:xs.length≠ys.9):rF xs ys=false:=by
 induction xs generalizing ys with
 |nil=>cases ys with
  |nil=>exact absurd rfl h
  |cons _ _=>rfl
 |cons x xs a=>cases ys with
  |nil=>rfl
  |cons y ys=>
   show (wh x y&&rF xs ys)=false;rw[a (by simpa using h),RD]
theorem mh:∀{xs ys:List V},xs.9=ys.9->rF xs ys=(PL xs.9).all λj=>wh (xs.getD j .non) (ys.getD j .non)
 |[],[],_=>rfl
 |[],_::_,h=>by simp at h
 |_::_,[],h=>by simp at h
 |x::xs,y::ys,h=>by
  show (wh x y&&rF xs ys)=_;rw[Ov,List.range_succ_eq_map,UE,V3,mh (by simpa using h)];rfl
inductive GY(K:O4)(x y:V)(H:Hp)(Q:VK):Prop
 |mk (a b xs ys) (_:x=.ref a) (_:y=.ref b) (_:aK K H a xs) (_:aK K H b ys) (_:xs.all cC=true) (_:ys.all cC=true) (_:Q (.bl (rF xs ys)) H)
noncomputable def EC(K:O4)(a:Addr):It:=
 {λi H=>∃xs x,aK K H a xs/\xs[i]?=ρ x,λi H x H'=>∃T xv,H T=τ/\x=.ref T/\H'=upd H T (.tup [.int (i:Nat),xv])/\∀xs,aK K H a xs->xs[i]?=ρ xv,λi H=>∃xs,aK K H a xs/\xs.9<=i}
def ED(K:O4)(ta:TA):TI:=λσ H R=>ta σ H λvs H1=>∃a xs,vs=[.ref a]/\aK K H1 a xs/\R (EC K a) H1
noncomputable def iG(sc scope:Qr)(N:List Str)(x:Str)(ys:List Str)(ix:List Nat):Bool:=
 (match scope.kind with |.function=>true |_=>false) &&
 (scope.names.all λy=>!decide (y.2=.cell))&&(scope.names.all λy=>!decide (y.2=.local) ||decide (scope.names.lookup y.1=ρ .local)) &&
 (scope.names.all λy=>!decide (y.2=.free) ||decide (sc.names.lookup y.1=ρ .cell) ||decide (sc.names.lookup y.1=ρ .free)) &&
 decide (scope.names.lookup x=ρ .local)&&decide ((x::ys).Nodup)&&decide (ix.9=ys.9) &&
 ((PL ys.9).all λj=>match ys[j]?,ix[j]? with
   |some y,ρ i=>decide (N[i]?=ρ y)&&(decide (sc.names.lookup y=ρ .cell) ||decide (sc.names.lookup y=ρ .free))&&decide (scope.names.lookup y=ρ .free)
   |_,_=>false)
theorem ye{κ:Type}(f:κ->V)(g:κ->Str)(j:∀a b,g a=g b->f a=f b):∀{l:List κ} {c:κ},c∈l->dO (l.map λc=>((Ou (g c):Key),f c)) (Ou (g c):Key)=ρ (f c):=by intro a;induction a<;>grind [eO,eP,Rb]
theorem oR:∀(a b:List Str),rF (a.map V.str) (b.map V.str)=decide (a=b)
 |[],[]=>rfl
 |[],_::_=>rfl
 |_::_,[]=>rfl
 |x::c,y::d=>by
  show ((x==y)&&rF (c.map V.str) (d.map V.str))=_;rw[oR c d]
  by_cases e:x=y
  .subst e
   by_cases f:c=d
   .subst f;simp
   .simp[f]
  .have:(x==y)=false:=beq_eq_false_iff_ne.mpr e;rw[this];simp[e]
structure C6(K:O4)(CB:Addr):Prop where
 sp:Vi K (.ref CB) "__getattribute__"=ρ (ρ (.builtin "type.__getattribute__"))
 rd:readsIn K CB (.type "type")=true
 fc:findCls K (.ref CB) (.type "type") "__init__"=ρ (.val (.builtin "ValueError.__init__"))
noncomputable def GZ:TJ:=λacc _ H Q=>acc.9<=sizeLine/\Q acc H
noncomputable def EE(d:Addr)(o:Obj)(kvs:List (Key×V)):It:={λi H=>H d=ρ (.frz o (.dK kvs))/\i<kvs.9,λi H x H'=>H'=H/\∃kv,kvs[i]?=ρ kv/\x=kV kv.1,λi H=>H d=ρ (.frz o (.dK kvs))/\kvs.9<=i}
def EF(tl:TE):TI:=λσ H R=>tl σ H λx H1=>∃d kvs,x=.ref d/\((H1 d=ρ (.dK kvs)/\∀o,R (EE d o kvs) (upd H1 d (.frz o (.dK kvs))))\/∃o,H1 d=ρ (.frz o (.dK kvs))/\R (EE d o kvs) H1)
def yf(H:Hp)(rs:List Addr)(Jg:List (List V)):Prop:=rs.9=Jg.length/\∀(i:Nat) (r:Addr) (xs:List V),rs[i]?=ρ r->Jg[i]?=ρ xs->H r=ρ (.tup xs)
noncomputable def kE(sc scope:Qr)(N:List Str)(x:Str)(ys:List Str)(ix:List Nat):Bool:=
 (match scope.kind with |.function=>true |_=>false) &&
 (decide (scope.names.filter (·.2 == .cell)=[(x,.cell)]))&&(scope.names.all λy=>!decide (y.2=.local) ||decide (scope.names.lookup y.1=ρ .local)) &&
 (scope.names.all λy=>!decide (y.2=.free) ||decide (sc.names.lookup y.1=ρ .cell) ||decide (sc.names.lookup y.1=ρ .free)) &&
 decide (scope.names.lookup x=ρ .cell)&&decide ((x::ys).Nodup)&&decide (ix.9=ys.9) &&
 ((PL ys.9).all λj=>match ys[j]?,ix[j]? with
   |some y,ρ i=>decide (N[i]?=ρ y)&&(decide (sc.names.lookup y=ρ .cell) ||decide (sc.names.lookup y=ρ .free))&&decide (scope.names.lookup y=ρ .free)
   |_,_=>false)
end
section
variable{fs ex:List Addr}{H H1:Hp}{h h1:Heap}
theorem Un.any(u:Un fs ex H H1 h h1){b:Addr}{ob:Obj}(q:h.get? b=ρ ob)(n:H b=τ)(hx:b∉ex):∃sl,h1.get? b=ρ {ob with slots:=sl}:=by
 by_cases a:b∈fs
 .exact u.slot b ob q n a hx
 .exact{ob.slots,u.keep b ob q n a hx}
theorem j3:∀{xs:List V} {us:List Value},Vals xs us->xs.all cC=true->us.any (tS x)=xs.any λy=>wh y x
 |_,_,.nil,_=>rfl
 |y::xs,u::us,.cons r t,f=>by
  rw[UE,QO]at f;rw[Ro,Ro,y8 r f.1,j3 t f.2]
noncomputable def xO(x:V)(xs:List V):Bool:=xs.any λy=>wh y x
theorem yg(y:Str)(ps:List Str):xO (.str y) (ps.map V.str)=decide (y∈ps):=by
 unfold xO;rw[Tl]
 induction ps with
 |nil=>rfl
 |cons p ps a=>
  rw[Ro,a];show ((p==y) ||decide (y∈ps))=decide (y∈p::ps)
  by_cases e:p=y
  .subst e;simp
  .have:(p==y)=false:=beq_eq_false_iff_ne.mpr e;have b:¬y=p:=λz=>e z.symm;rw[this,SU];simp[b]
end
section
variable{κ:Type}[DecidableEq κ]
noncomputable def putK(kvs:List (κ×V))(k:κ)(v:V):List (κ×V):=
 if (kvs.any λkv=>decide (kv.1=k))=true then kvs.map (λkv=>if kv.1=k then(kv.1,v) else kv) else kvs++[(k,v)]
theorem j4(k:κ):∀kvs:List (κ×V),(kvs.any λg=>decide (g.1=k))=(dO kvs k).isSome
 |[]=>rfl
 |p::r=>by
  rw[Ro]
  by_cases e:p.1=k
  .simp only[eO e,decide_eq_true e,Bool.true_or,V4]
  .rw[eP e,decide_eq_false e,SU];exact j4 k r
theorem gk(kvs:List (κ×V))(k:κ)(v:V):(putK kvs k v).9<=kvs.9+1:=by
 delta putK;split
 .rw[O5];lia
 .rw[Oy,Ov,S0];lia
theorem gm{kvs:List (κ×V)}{k:κ}(v:V)(h:dO kvs k=τ):putK kvs k v=kvs++[(k,v)]:=by simp_all [putK,j4,if_neg]
theorem KV.any{kvs:List (κ×V)}{vs:List (κ×Value)}(r:KV kvs vs)(k:κ):(kvs.any λg=>decide (g.1=k))=vs.any λg=>decide (g.1=k):=by
 unfold KV at r
 induction r with
 |nil=>rfl
 |cons h t a=>rw[Ro,Ro,a,h.1]
theorem KV.put{kvs:List (κ×V)}{vs:List (κ×Value)}(r:KV kvs vs)(k:κ){y:V}{u:Value}(g:RelV y u):KV (putK kvs k y) (stored vs k u):=by
 unfold putK stored;rw[r.any k]
 by_cases e:(vs.any λa=>decide (a.1=k))=true
 .rw[if_pos e,if_pos e];exact r.repl k g
 .rw[if_neg e,if_neg e];exact Paired.snoc r ⟨rfl,g⟩
end
section
variable{K:O4}
theorem oS{h:Heap}{g:Addr}{j:Str->Option Value}(n:h.Ns1 g j):∃od,h.get? g=ρ od/\∀name,Su name od=ρ (j name):=by
 let{o,c,l,d,hd,hk,_,f}:=n
 refine{o,d,λname=>?_};have e:=f name;unfold nsFind findBy at e;rw[<-Array.find?_toList]at e;unfold Su;rw[hd];dsimp only;split
 .rename_i y q;rw[q]at e;exact congrArg ρ e
 .rename_i q;rw[q]at e
  have a:c.toList.any (·.refKey)=false:=by
   rw[Vm];intro y i
   let{z,t,b}:=hk y (Array.mem_toList_iff.mp i)
   simp[DictEntry.refKey,b]
  have k:¬c.toList.any (·.refKey)=true:=by rw[a];exact Oj
  rw[if_neg k];exact congrArg ρ e
theorem tK.look{h:Heap}{x g C:Addr}{j:Str->Option Value}(I:tK h x g C j):∃od,PySem.W.InstAt h x (Qf C g) C (ρ od)/\∀name,Su name od=ρ (j name):=
 let ⟨od,a,hl⟩:=oS I.ns
 {od,⟨I.obj,rfl,rfl,a⟩,hl}
theorem KT.put{H:Hp}{kvs:List (List Key×V)}{xs:List (List Key×Addr×Value)}(r:KT H kvs xs)(k:List Key){b:Addr}{y:V}{u:Value}(j:H b=ρ (.tup (k.map kV)))(g:RelV y u) :
 KT H (putK kvs k y) (storedH xs k b u):=by
 have e:(kvs.any λa=>decide (a.1=k))=(atKey xs k).isSome:=by
  rw[j4,(r.val k).jY,Vn]
 unfold putK storedH;rw[e]
 by_cases q:(atKey xs k).isSome=true
 .rw[if_pos q,if_pos q];exact r.repl k g
 .rw[if_neg q,if_neg q];exact Paired.snoc r ⟨rfl,j,g⟩
def nV(H:Hp)(a:Addr)(y v:V)(H':Hp):Prop:=
 (∃kvs k,H a=ρ (.dK kvs)/\y=kV k/\kvs.9<sizeLine/\H'=upd H a (.dK (putK kvs k v))) \/
 ∃kvs k b,H a=ρ (.dT kvs)/\y=.ref b/\H b=ρ (.tup (k.map kV))/\kvs.9<sizeLine/\H'=upd H a (.dT (putK kvs k v))
theorem nV.k{H:Hp}{a:Addr}{kvs:List (Key×V)}{k:Key}{v:V}(e:H a=ρ (.dK kvs))(hl:kvs.9<sizeLine):nV H a (kV k) v (upd H a (.dK (putK kvs k v))):=.inl ⟨kvs,k,e,rfl,hl,rfl⟩
noncomputable def jZ(kvs more:List (Key×V)):List (Key×V):=more.foldl (λacc kv=>putK acc kv.1 kv.2) kvs
theorem KV.merge:∀{more:List (Key×V)} {g:List (Key×Value)} {kvs:List (Key×V)} {vs:List (Key×Value)},KV more g->KV kvs vs->KV (jZ kvs more) (merged vs g):=by
 intro more g kvs vs r;unfold KV at r
 induction r generalizing kvs vs with
 |nil=>intro q;exact q
 |@cons p q ps c h t a=>
  intro b
  have e:KV (putK kvs p.1 p.2) (stored vs q.1 q.2):=by
   have:=b.put p.1 h.2;rw[<-h.1];exact this
  exact a e
theorem nW:∀(more kvs:List (Key×V)),(jZ kvs more).9<=kvs.9+more.9:=by intro more;induction more<;>grind [putK,gk,jZ,Ov]
def EG(Ho:List (TE×TE)):TE:=λσ H Q=>∀p,H p=τ->tN Ho σ (upd H p (.dK [])) λps H2=>H2 p=ρ (.dK [])/\∃kvs:List (Key×V),ps=kvs.map (λkv=>(kV kv.1,kv.2))/\kvs.9<=15/\Q (.ref p) (upd H2 p (.dK (jZ [] kvs)))
theorem oO.binds{x g:Str}{st:Stmt}{f:Addr}{fd:P0}{ps:List Str}(F:oO K x g st f fd)
 (h:∀(kV j pm:Value) (o:Option Addr) (l ct:Value) (us:List Value),us.9=ps.9->bindArgs (Qh x g (bC st) (bc st) (ak st) .none kV j pm o l ct) {us,[]}=pure (ps.zip us)):Binds K fd ps []:=by
 let{c,d,kV,j,pm,o,l,ct,a,rfl,lk,b}:=F.ex
 exact .all (h kV j pm o l ct)
theorem yh{x g:Str}{st:Stmt}{f:Addr}{t:Value}{od r:Option Addr}{p:Array (Option Value)}{kV o pm j ct:Value}(l:K.lookup f=ρ {t,od,.func (Qh x g (bC st) (bc st) (ak st) .none kV o pm r j ct),p})
 (c:RC K j g=true) (k:QL K (.ref f)=true):oO K x g st f (Qh x g (bC st) (bc st) (ak st) .none kV o pm r j ct):={⟨t,od,kV,o,pm,r,j,ct,p,rfl,l,c⟩,k}
theorem iH:∀{names:List (Str×NameKind)} (g:List (Str×Addr)),(∀y∈names,y.2=.free->∃c,env.cells.lookup y.1=ρ c)->(∀y c,g.lookup y=ρ c->env.cells.lookup y=ρ c) ->
 ∃cl:List (Str×Addr),(forIn names g (λ(x:Str×NameKind) p=>(match x with |(name,kind)=>if kind == .free then do let c <-cellOf env name;pure (R1 ((name,c)::p)) else pure (R1 p):Sem (ForInStep (List (Str×Addr))))))=pure cl /\
  (∀y c,cl.lookup y=ρ c->env.cells.lookup y=ρ c)/\(∀y c,g.lookup y=ρ c->∃j,cl.lookup y=ρ j)/\∀y∈names,y.2=.free->∃c,cl.lookup y.1=ρ c
 |[],g,_,ha=>{g,rfl,ha,λy c e=>⟨c,e⟩,λ_ h=>nomatch h}
 |(n,k)::r,g,f,ha=>by
  rw[List.forIn_cons]
  by_cases hk:k=.free
  .let{c,hc}:=f (n,k) Ot hk
   have i:(k==OW)=true:=by rw[hk];rfl
   let{cl,l,m,d,o}:=iH (env:=env) (names:=r) ((n,c)::g) (λy a=>f y (Of _ a)) (λy j e=>by
    rw[OA]at e
    cases q:y==n with
    |true=>
     rw[q]at e;have:c=j:=Oc e;subst this;have:y=n:=eq_of_beq q;subst this;exact hc
    |false=>
     rw[q]at e
     exact ha y j e)
   refine{cl,?_,m,λy j e=>?_,λy a b=>?_}
   .rw[<-l];simp only[i,if_true];have s:cellOf env n=pure c:=by unfold cellOf;rw[hc]
    rw[s];rfl
   .by_cases q:y=n
    .subst q;exact d y c (by simp[OA])
    .refine d y j ?_;have:(y==n)=false:=beq_eq_false_iff_ne.mpr q;rw[OA,this];exact e
   .rcases Oi.mp a with rfl |a
    .exact d n c (by simp[OA])
    .exact o y a b
  .have i:(k==OW)=false:=by simpa using hk
   let{cl,l,m,d,o}:=iH (env:=env) (names:=r) g (λy a=>f y (Of _ a)) ha
   refine{cl,?_,m,d,λy a b=>?_}
   .rw[<-l];simp only[i,R3,if_false];rfl
   .rcases Oi.mp a with rfl |a
    .exact absurd b hk
    .exact o y a b
theorem eK(g:∀y∈scope.names,y.2=.free->∃c,env.cells.lookup y.1=ρ c) :
 ∃cl,closureFor scope env=pure cl/\(∀y c,cl.lookup y=ρ c->env.cells.lookup y=ρ c)/\∀y∈scope.names,y.2=.free->∃c,cl.lookup y.1=ρ c:=by
 let{cl,b,d,_,f}:=iH (env:=env) (names:=scope.names) [] g (λy c e=>by simp at e)
 refine{cl,?_,d,f};simp only[closureFor]
 first
  |(rw[b];rfl)
  |(have a:=b;simp only at a ⊢;rw[a];rfl)
  |(refine Ra (congrArg (λm=>m >>= λh=>pure h) ?_) ?_;exact pure cl;exact b;rfl)
theorem pW(g:∀y∈scope.names,y.2≠.cell)(h:(relabel scope env).names.lookup x=ρ .cell\/(relabel scope env).names.lookup x=ρ .free):∃k,(x,k)∈scope.names/\k=OW:=by
 unfold relabel at h;dsimp only at h
 have key:∀(names:List (Str×NameKind)),(∀y∈names,y.2≠.cell) ->
  ((names.map λ(n,k)=>if (k==OW&&env.scope.kind == .function&&env.kindOf n==ρ .cell) then(n,Ph) else(n,k)).lookup x=ρ .cell \/
   (names.map λ(n,k)=>if (k==OW&&env.scope.kind == .function&&env.kindOf n==ρ .cell) then(n,Ph) else(n,k)).lookup x=ρ .free)->∃k,(x,k)∈names/\k=OW:=by
  intro names
  induction names with
  |nil=>intro _ h;simp at h
  |cons y r d=>
   let{n,k}:=y
   intro hc h;have f:=d (λy i=>hc y (Of _ i));rw[Og]at h;dsimp only at h
   by_cases hx:x=n
   .subst hx
    by_cases hk:k=.free
    .exact⟨k,Ot,hk⟩
    .have j:(k==OW)=false:=by simpa using hk
     simp only[j,Bool.false_and,R3,if_false,OA,beq_self_eq_true]at h;rcases h with h |h
     .exact absurd (Oc h) (hc (x,k) Ot)
     .exact absurd (Oc h) hk
   .have b:(x==n)=false:=beq_eq_false_iff_ne.mpr hx
    have c:∀a:NameKind,SE x ((if (k==OW&&env.scope.kind == .function&&env.kindOf n==ρ .cell)=true then(n,Ph) else(n,k))::(r.map λ(n,k)=>if (k==OW&&env.scope.kind == .function&&env.kindOf n==ρ .cell) then(n,Ph) else(n,k)))=ρ a ->
     (r.map λ(n,k)=>if (k==OW&&env.scope.kind == .function&&env.kindOf n==ρ .cell) then(n,Ph) else(n,k)).lookup x=ρ a:=by
     intro a e;split at e
     .simpa only[OA,b] using e
     .simpa only[OA,b] using e
    let{l,m,o}:=f (h.imp (c _) (c _))
    exact{l,Of _ m,o}
 exact key scope.names g h
theorem vh(h:j2 J l g j o H Q):vg (gi 0) 1 J l g j o H Q:=
 let ⟨W,a,t⟩:=h
 {W,a,λi m d e w=>let ⟨p,q⟩:=t i m d e w;{p,q.imp id λ⟨a,b,c⟩=>{a,b,λx f k n y=>by revert k;refine y9 1 _ ?_;exact λ_=>{{[ρ x],rfl,rfl},c x f y}}}}
theorem gn(h:scope.names.lookup x=ρ .free):(relabel scope env).names.lookup x=ρ .cell\/(relabel scope env).names.lookup x=ρ .free:=by
 unfold relabel;dsimp only
 have key:∀(names:List (Str×NameKind)),names.lookup x=ρ .free ->
  ((names.map λ(n,k)=>if (k==OW&&env.scope.kind == .function&&env.kindOf n==ρ .cell) then(n,Ph) else(n,k)).lookup x=ρ .cell \/
   (names.map λ(n,k)=>if (k==OW&&env.scope.kind == .function&&env.kindOf n==ρ .cell) then(n,Ph) else(n,k)).lookup x=ρ .free):=by
  intro names
  induction names with
  |nil=>intro h;simp at h
  |cons y r b=>
   let{n,k}:=y
   intro h;rw[Og];dsimp only
   by_cases hx:x=n
   .subst hx
    have hk:k=.free:=by
     rw[OA]at h;simp only[beq_self_eq_true]at h;exact Oc h
    subst hk;split
    .left;simp[OA]
    .right;simp[OA]
   .have a:(x==n)=false:=beq_eq_false_iff_ne.mpr hx;rw[OA,a]at h;have q:=b h;split
    .simpa only[OA,a] using q
    .simpa only[OA,a] using q
 exact key scope.names h
theorem hK{Ok:Hp->Prop}{Q:Hp->Prop}(p:V->Bool)(g:V->V)(T:pV J Ok xs)(hl:H l=τ)(hz:xs.9<=sizeLine)(t:∀j,a7 H j->Ok j)
 (U:∀x r C,x∈xs->a7 H r->(∀j,a7 r j->C (p x) j)->tt (ρ x::I) r C)
 (he:∀x r C,x∈xs->p x=true->a7 H r->(∀j,a7 r j->C (g x) j)->te (ρ x::I) r C)
 (hd:∀j,a7 H j->j l=ρ (.lst ((xs.filter p).map g))->Q j):j2 J l I tt te H Q:=by
 refine{λi m n d=>m=xs.9-i/\i<=xs.9/\a7 H d/\d l=ρ (.lst n)/\n=((xs.take i).filter p).map g,{xs.9,by simp,OZ _,a7.upd hl,a5,by simp},?_};rintro i m n d ⟨rfl,hi,c,h,k⟩;refine{h,?_}
 by_cases a:i<xs.9
 .refine .inr {T.go i d (t _ c) a,?_,λx r y=>?_}
  .rw[k,O5];refine QZ (Rg _ _) ?_;rw[OT];omega
  .let{e,hx}:=T.tJ i d x r (t _ c) a y
   subst e;have mem:x∈xs:=Ox hx;have s:xs.take (i+1)=xs.take i++[x]:=by rw[Qk,hx];rfl
   refine U x _ _ mem c λv f=>?_
   cases q:p x with
   |false=>
    rw[if_neg Oj];refine{xs.9-(i+1),1.0,rfl,a,c.trans f,f _ _ h,?_};rw[s,Ru,k];simp[q]
   |true=>
    rw[if_pos rfl];refine he x _ _ mem q (c.trans f) λw u=>?_;refine{u _ _ (f _ _ h),xs.9-(i+1),1.0,rfl,a,?_,a5,?_}
    .intro b o e;rw[a8 (ae e hl)];exact u _ _ (f _ _ (c _ _ e))
    .rw[s,Ru,k];simp[q]
 .have e:i=xs.9:=1.0;subst e;refine .inl {T.stop d (t _ c),hd d c ?_};rw[h,k,Pu]
theorem yi(hk:kvs.map (·.1)=g.map (Ou:Str->Key))(rel:KV kvs vs)(hl:us.9=vs.9)
 (l:∀(j:Nat) (u:Value),us[j]?=ρ u->∃k x,vs[j]?=ρ (k,x)/\(aR P w).is k u=true):StrsAre us g:=by
 have e:vs.map (·.1)=g.map (Ou:Str->Key):=rel.keys ▸ hk;clear hk rel
 induction g generalizing us vs with
 |nil=>
  have:vs=[]:=by cases vs with |nil=>rfl |cons a b=>simp at e
  subst this;have:us=[]:=RG.mp hl;subst this;exact .nil
 |cons k g i=>
  cases vs with
  |nil=>simp at e
  |cons v vs=>
   cases us with
   |nil=>simp at hl
   |cons u us=>
    rw[Og,Og]at e;injection e with m n
    let{f,x,o,p}:=l 0 u rfl
    have c:v=(f,x):=by simpa using o
    subst c;have d:f=(Ou k:Key):=m;subst d
    let{t,rfl}:=UH (x:=k) (v:=u) p
    exact .cons k t (i (by simpa using hl) (λj q h=>l (j+1) q (by simpa using h)) n)
theorem oU:∀{kvs:List (Key×V)} {vs:List (Key×Value)} {us:List Value},KV kvs vs->us.9=vs.9 ->
 (∀(j:Nat) (u:Value),us[j]?=ρ u->∃k x,vs[j]?=ρ (k,x)/\(aR P w).is k u=true)->Vals (kvs.map λg=>kV g.1) us
 |_,_,us,.nil,hl,_=>by
  have:us=[]:=RG.mp hl;subst this;exact .nil
 |_,_,us,.cons (a:=p) (b:=q) r t,hl,d=>by
  cases us with
  |nil=>simp at hl
  |cons u us=>
   let{f,x,l,m}:=d 0 u rfl
   have c:q=(f,x):=by simpa using l
   subst c;refine .cons ?_ (oU t (by simpa using hl) λj n h=>d (j+1) n (by simpa using h));have e:p.1=f:=r.1;show RelV (kV p.1) u;rw[e];rcases b0 m with⟨i,t,rfl,rfl⟩ |⟨y,t,rfl,rfl⟩
   .exact⟨t,rfl⟩
   .exact⟨t,rfl⟩
noncomputable def kF(σ:List Str)(v:Str):List Str:=if σ.any (· == v)=true then σ else σ++[v]
noncomputable def bf(val:Nat->Str)(i:Nat):List Str:=((PL i).map val).foldl kF []
theorem cn(val:Nat->Str)(i:Nat):bf val (i+1)=kF (bf val i) (val i):=by
 delta bf;rw[TR,OV,T2];rfl
theorem k4(val:Nat->Str):∀i,(bf val i).9<=i
 |0=>Ob _
 |i+1=>by
  rw[cn];delta kF;have a:=k4 val i;split
  .lia
  .grind
theorem oV(σ:List Str)(v k:Str):(kF σ v).any (· == k)=(σ.any (· == k) ||decide (k=v)):=by
 delta kF
 by_cases h:σ.any (· == v)=true
 .rw[if_pos h]
  by_cases e:k=v
  .subst e;rw[h];simp
  .simp[e]
 .rw[if_neg h,List.any_append]
  by_cases e:k=v
  .subst e;simp
  .have a:(v==k)=false:=by simpa [beq_iff_eq] using(λb:v=k=>e b.symm)
   simp[a,e]
theorem j5(σ:List Str)(v:Str):(kF σ v).9=if σ.any (· == v) then σ.length else σ.9+1:=by
 delta kF;split<;>simp
theorem vi{h:Heap}{a:Addr}{m g:Str->Option Value}(x:h.Ns a m)(y:h.Ns a g):m=g:=by
 let{o,k,l,e,hd,_,f}:=x
 let{p,i,j,b,c,_,d}:=y
 rw[e]at b;cases b;rw[hd]at c;cases c;funext n;rw[<-f n,<-d n]
theorem mi{X:Cx}(g:X.env.scope=sc)(l:X.N=N)(h:iG sc scope N x ys ix=true):d2 X scope x ys ix:=by
 unfold iG at h;simp only[QO]at h
 let{{{{{{{b,d},f},k},m},n},o},p}:=h
 refine{?_,λy a=>?_,λy a e=>?_,of_decide_eq_true m,λy a e=>?_,of_decide_eq_true n,of_decide_eq_true o,λj y c=>?_}
 .cases e:scope.kind<;>rw[e]at b<;>first |rfl |cases b
 .have:=OD.mp d y a;simpa using this
 .have:=OD.mp f y a;simpa [e] using this
 .have:=OD.mp k y a;have q:sc.names.lookup y.1=ρ .cell\/sc.names.lookup y.1=ρ .free:=by simpa [e] using this
  show X.env.scope.names.lookup y.1=ρ .cell\/X.env.scope.names.lookup y.1=ρ .free;rw[g];exact q
 .have hl:j<ys.9:=(O8.mp c).1;have:=OD.mp p j (Sv.mpr hl);rw[c]at this
  cases e:ix[j]? with
  |none=>rw[e]at this;cases this
  |some i=>
   rw[e]at this;simp only[QO,VO,decide_eq_true_eq]at this;exact{i,rfl,by rw[l];exact this.1.1,by rw[g];exact this.1.2,this.2}
noncomputable def fN(ks:List Str):List (Key×V):=ks.map λk=>((Ou k:Key),V.bl true)
theorem tU(g:List Str):(fN g).map (·.1)=g.map (Ou:Str->Key):=by
 delta fN;rw[OS];rfl
theorem wj(g:List Str):(fN g).9=g.9:=by delta fN;rw[O5]
noncomputable def gp(es:List (Key×V))(CP:List Str):Bool:=(es.map (·.2)).any λe=>xO e (CP.map V.str)
theorem yj{e:V}{a b:List Str}(h:∀k∈a,k∈b)(q:xO e (a.map V.str)=true):xO e (b.map V.str)=true:=by
 unfold xO at q ⊢
 let{y,c,d}:=PR.mp q
 let{k,hk,rfl}:=Ol.mp c
 exact PR.mpr {_,Ol.mpr {k,h k hk,rfl},d}
theorem tV{g:List (Key×V)}{a b:List Str}(h:∀k∈a,k∈b)(q:gp g a=true):gp g b=true:=by
 unfold gp at q ⊢
 let{y,c,d}:=PR.mp q
 exact PR.mpr {y,c,yj h d}
structure EH(ks:List Str)(es:Str->List (Key×V))(ls:List Str):Prop where
 sub:ls.Sublist ks
 KL:∀k∈ls,gp (es k) ls=true
 most:∀CP:List Str,(∀k∈CP,k∈ks/\gp (es k) CP=true)->∀k∈CP,k∈ls
theorem eQ(h:k∈mv.map (·.1)):∃a,(k,a)∈mv/\dO (bM mv) (Ou k:Key)=ρ (.ref a):=by
 induction mv with
 |nil=>simp at h
 |cons m mv c=>
  let{j,b}:=m
  by_cases e:j=k
  .subst e;exact{b,Ot,eO rfl}
  .have d:k∈mv.map (·.1):=by
    rcases Oi.mp h with z |z
    .exact absurd z.symm e
    .exact z
   let{a,ha,q}:=c d
   refine{a,Of _ ha,?_};unfold bM;rw[Og,eP (λz=>e (Rb z))];exact q
theorem yk{Ok:Hp->Prop}{Q:Hp->Prop}(R:V->Prop)(r:pV J Ok xs)(hl:H l=τ)(C:xs.9<=sizeLine)(j:∀g,a7 H g->Ok g)
 (he:∀x p I,x∈xs->a7 H p->(∀y g,R y->a7 p g->I y g)->T (ρ x::t) p I)
 (hd:∀ys g,a7 H g->ys.9=xs.9->(∀y∈ys,R y)->g l=ρ (.lst ys)->Q g):j2 J l t y2 T H Q:=by
 refine{λi m ys a=>m=xs.9-i/\i<=xs.9/\a7 H a/\a l=ρ (.lst ys)/\ys.9=i/\∀y∈ys,R y,{xs.9,by simp,OZ _,a7.upd hl,a5,rfl,λy f=>(nomatch f)},?_};rintro i m ys a ⟨rfl,hi,d,h,k,n⟩;refine{h,?_}
 by_cases c:i<xs.9
 .refine .inr {r.go i a (j _ d) c,(),λx p y=>?_}
  let{e,hx}:=r.tJ i a x p (j _ d) c y
  subst e;delta y2;dsimp only;rw[if_pos rfl];refine he x _ _ (Ox hx) d λz u C s=>?_;refine{s _ _ h,xs.9-(i+1),(),rfl,c,?_,a5,by simp[k],λy f=>?_}
  .intro b o e;rw[a8 (ae e hl)];exact s _ _ (d _ _ e)
  .rcases P2.mp f with q |q
   .exact n y q
   .have:y=z:=by simpa using q
    subst this;exact C
 .have e:i=xs.9:=();subst e;exact .inl {r.stop a (j _ d),hd ys a d k n h}
noncomputable def roundF(ss:List Str)(es:Str->List (Key×V))(CP:List Str):List Str:=ss.filter λp=>gp (es p) CP
noncomputable def rounds(ss:List Str)(es:Str->List (Key×V)):Nat->List Str
 |0=>ss
 |n+1=>roundF ss es (rounds ss es n)
theorem A9.low{lo j:Nat}{H:Hp}{h:Heap}{e C:Addr}{od:Option Addr}(F:A9 lo H h e C od)(hl:j<=lo):A9 j H h e C od:=by
 let{g,n,i,sl,k,l,f}:=F
 refine{Od hl g,n,i,sl,k,l,?_};rcases f with f |⟨T,m,o,a,b,c,d⟩
 .exact .inl f
 .exact .inr {T,m,o,a,Od hl b,c,d}
theorem eJ.f{H:Hp}{a:Addr}{o:Obj}{kvs:List (Key×V)}{k:Key}(e:H a=ρ (.frz o (.dK kvs))):eJ H a (kV k) (dO kvs k):=.inl {kvs,k,.inr ⟨o,e⟩,rfl,rfl}
noncomputable def k6(f:Str->V)(ks:List Str):List (Key×V):=ks.map λp=>((Ou p:Key),f p)
theorem gq(f:Str->V)(h:k∈g):dO (k6 f g) (Ou k:Key)=ρ (f k):=by
 induction g with
 |nil=>simp at h
 |cons j g a=>
  by_cases e:j=k
  .subst e;exact eO rfl
  .unfold k6;rw[Og,eP (λz=>e (Rb z))];exact a (by rcases Oi.mp h with z |z;exact absurd z.symm e;exact z)
theorem rG(f:Str->V)(g:List Str):(k6 f g).9=g.9:=by unfold k6;rw[O5]
theorem oW(f:Str->V)(g:List Str)(k:Str):k6 f (g++[k])=k6 f g++[((Ou k:Key),f k)]:=by unfold k6;rw[OV];rfl
noncomputable def EI(f:Str->Int):V->V:=λv=>match v with
 |.str z=>.int (f z)
 |_=>.non
theorem wk(f:Str->Int)(g:List Str):(g.map V.str).map (EI f)=(g.map f).map V.int:=by
 rw[OS,OS];rfl
theorem mj(val:Nat->Str):∀n,i<n->(bf val n).any (· == val i)=true
 |0,h=>absurd h (R4 _)
 |n+1,h=>by
  rw[cn,oV]
  by_cases e:i=n
  .subst e;simp
  .rw[mj val n (),Bool.true_or]
theorem mm(val:Nat->Str)(g:i<j)(e:val i=val j):∀n,j<n->(bf val n).9<n
 |0,h=>absurd h (R4 _)
 |n+1,h=>by
  rw[cn,j5]
  by_cases q:j=n
  .subst q;rw[<-e,mj val j g,if_pos rfl];have:=k4 val j
   lia
  .have:=mm val g e n ();split<;>lia
theorem under(n:Nat){P:Int->Prop}(h:∀k:Fin n,P ((k.val:Nat):Int))(d:Int)(a:0<=d)(b:d<(n:Int)):P d:=by
 let{k,rfl}:=Int.eq_ofNat_of_zero_le a
 exact h {k,Int.ofNat_lt.mp b}
theorem bg{X:Cx}(ys:List Str)(ix:List Nat)(h:iG X.env.scope scope X.N x ys ix=true:=by kernel_rfl):d2 X scope x ys ix:=mi rfl rfl h
theorem cS:∀(names:List (Str×NameKind)) (n:Nat) (g:List (Str×Addr)),RT n names g=RT n (names.filter (·.2 == .cell)) g
 |[],_,_=>rfl
 |(y,k)::r,n,g=>by
  by_cases h:(k==Ph)=true
  .rw[Q1 (by exact h)];unfold RT;rw[if_pos h,if_pos h];exact cS r _ _
  .rw[QS (by exact h)];rw[RT,if_neg h];exact cS r _ _
theorem cT:∀(names:List (Str×NameKind)) (h:Heap),V5 h names=V5 h (names.filter (·.2 == .cell))
 |[],_=>rfl
 |(y,k)::r,a=>by
  by_cases h:(k==Ph)=true
  .rw[Q1 (by exact h)];unfold V5;rw[if_pos h,if_pos h];exact cT r _
  .rw[QS (by exact h)];rw[V5,if_neg h];exact cT r _
theorem tW(h:(relabel scope env).names.lookup x=ρ .cell\/(relabel scope env).names.lookup x=ρ .free):(x,OW)∈scope.names\/(x,Ph)∈scope.names:=by
 have key:∀a:NameKind,a=.cell\/a=.free->(relabel scope env).names.lookup x=ρ a->(x,OW)∈scope.names\/(x,Ph)∈scope.names:=λa c e=>by
  let{{n,k},d,b}:=Ol.mp (PH e)
  dsimp only at b;split at b
  .rename_i hc;cases b
   have:(k==OW)=true:=by
    cases q:(k==OW) with
    |true=>rfl
    |false=>rw[q]at hc;cases hc
   have:k=.free:=by cases k<;>first |rfl |cases this
   subst this;exact .inl d
  .cases b;rcases c with rfl |rfl
   .exact .inr d
   .exact .inl d
 exact h.elim (key _ (.inl rfl)) (key _ (.inr rfl))
theorem pX(h:scope.names.lookup x=ρ .cell):(relabel scope env).names.lookup x=ρ .cell:=by
 unfold relabel;dsimp only
 have key:∀(names:List (Str×NameKind)),names.lookup x=ρ .cell ->
  (names.map λ(n,k)=>if (k==OW&&env.scope.kind == .function&&env.kindOf n==ρ .cell) then(n,Ph) else(n,k)).lookup x=ρ .cell:=by
  intro names
  induction names with
  |nil=>intro h;simp at h
  |cons y r b=>
   let{n,k}:=y
   intro h;rw[Og];dsimp only
   by_cases hx:x=n
   .subst hx
    have hk:k=.cell:=by
     rw[OA]at h;simp only[beq_self_eq_true]at h;exact Oc h
    subst hk;split<;>simp[OA]
   .have a:(x==n)=false:=beq_eq_false_iff_ne.mpr hx;rw[OA,a]at h;have q:=b h;split<;>simpa only[OA,a] using q
 exact key scope.names h
end
section
variable{M:TK}{A:Around}{E:Value->Shared->Prop}{s:Shared}{base:Heap}{env:Env}{outer:List Env}{L e C:Addr}{od:Option Addr}{lo:Nat}{H:Hp}
structure yl(lo:Nat)(H:Hp)(fs:List Addr)(h h':Heap):Prop where
 keep:∀b o,h.get? b=ρ o->(b<lo\/H b≠τ)->b∉fs->h'.get? b=ρ o
 slot:∀b o,h.get? b=ρ o->b∈fs->∃sl,h'.get? b=ρ {o with slots:=sl}
theorem oX{Q:Unit->Shared->Prop}
 (KM:A.frames=ρ (env::outer)) (hl:s.heap.FunFrames base (env::outer)) (hf:env.frame=ρ L) (Hq:lo<=s.8) (EJ:∀b,s.8<=b->H b=τ) (EK:lo<=e) (Jh:H e=τ)
 (he:s.heap.get? e=ρ oe) (C7:oe.cls=.ref C) (Ji:oe.dict=od) (hd:oe.data=.fields vs) (hsz:1<vs.size)
 (h:∀h',A9 lo H h' e C od->yl lo H ((env::outer).filterMap (·.frame)) s.heap h'->Q .unit {s with heap:=h'}) :
 wpAny M A (do let a <-frameOf env;let pl <-entryPlaceOf L Gb;let b <-UI head a .none (rawInt L) .none pl;setField (.ref e) 1 b) (λ_ s'=>wpAny M A (TU (.ref e) τ) Q E s') E s:=by
 have EL:e∉(env::outer).filterMap (·.frame):=λhm=>by
  let{_,o,ho,Hr}:=hl.mem hm
  rw[he]at ho;injection ho with ho;subst ho;exact Hr vs hd
 refine O6 (wpAny_frameOf_fun KM hl hf λh₁ ER=>?_);refine O6 (wpAny_entryPlaceOf λpl hpl=>?_);unfold UI newFields;refine O6 (T3 ?_ (hpl.sizeOk5 _ _ _ _ _));have Jj:h₁.get? e=ρ oe:=(ER.2.1 e EL).trans he;have Jk:=O9 (h:=h₁) {cls:=.type "traceback",dict:=τ,data:=.fields ([head,.ref L,.none,rawInt L,.none]++(if pl.isEmpty then P9 6 Pm else pl)).6} Jj;refine Sw Jk hd hsz ?_;have Hs:h₁.objs.size≠e:=Py (Oa Jj);have Jl:=R5 hd (·.setIfInBounds 1 (Oh h₁.7));have Jm:=QE (QW (·.setIfInBounds 1 (Oh h₁.7))) Jk (RU Jl)
 have Jn:=(P8 (h₁.push {cls:=.type "traceback",dict:=τ,data:=.fields ([head,.ref L,.none,rawInt L,.none]++(if pl.isEmpty then P9 6 Pm else pl)).6})
  (QW (·.setIfInBounds 1 (Oh h₁.7))) (Pz Hs)).trans (Oq h₁ rfl)
 unfold TU;refine O6 (RK Jm Jl (x:=.ref h₁.7) (by simp[hsz]) ?_);rw[if_pos (show (Oh h₁.objs.size != Pm)=true from by simp)];refine Sw Jn rfl (by simp only[OO,Oy,Ov,S0]<;>lia) (h _ ?_ ?_)
 .refine{EK,Jh,vs.setIfInBounds 1 (.ref h₁.7),oe.slots,?_,by simpa using hsz,.inr {h₁.7,_,_,by simp[hsz],by rw[ER.1];exact Hq,EJ _ (by rw[ER.1];exact Ob _),Hs,
   QE _ Jn (RU (R5 rfl _)),R5 rfl _,by first |(simp;done) |(rcases hpl with rfl |⟨_,_,_,_,_,_,_,rfl⟩<;>simp)}}
  rw[P8 _ _ Hs,Jm]
  let{c,d,dt,sl}:=oe
  dsimp only at C7 Ji hd;subst C7 Ji hd;rfl
 .have keep:∀b o,b≠e->h₁.get? b=ρ o ->
   (((h₁.push {cls:=.type "traceback",dict:=τ,data:=.fields ([head,.ref L,.none,rawInt L,.none]++(if pl.isEmpty then P9 6 Pm else pl)).6}).update e (QW (·.setIfInBounds 1 (Oh h₁.7)))).update h₁.7
     (QW (·.setIfInBounds 3 ((τ:Option Addr).elim Pm λf=>rawInt f)))).get? b=ρ o:=λb o KN hb=>by
   have KO:h₁.objs.size≠b:=Py (Oa hb);rw[P8 _ _ KO,P8 _ _ (Pz KN)];exact O9 _ hb
  refine{λb o hb hx Hr=>keep b o ?_ ((ER.2.1 b Hr).trans hb),λb o hb hm=>?_}
  .rintro rfl;rcases hx with hx |hx
   .exact absurd (O7 hx EK) (OX _)
   .exact hx Jh
  .let{sl,hs}:=ER.2.2 b o hb
   exact{sl,keep b _ (λz=>EL (z ▸ hm)) hs}
theorem rH{Q:Unit->Shared->Prop}(l:A.frames=ρ (env::outer))(hl:s.heap.FunFrames base (env::outer))(I:env.frame=ρ L)(p:lo<=s.8)(g:∀b,s.8<=b->H b=τ)
 (F:A9 lo H s.heap e C od) (h:∀h',A9 lo H h' e C od->yl lo H ((env::outer).filterMap (·.frame)) s.heap h'->Q .unit {s with heap:=h'}) :
 wpAny M A (noteFrame (.ref e) env) (λ_ s'=>wpAny M A (TU (.ref e) τ) Q E s') E s:=by
 let{m,n,y,sl,u,r,k}:=F
 unfold noteFrame;simp only[I];rcases k with k |⟨T,J,z,D,t,w,x,v,i,k⟩
 .refine O6 (RK u rfl k ?_);rw[if_neg ⋯];exact oX l hl I p g m n u rfl rfl rfl r h
 .refine O6 (RK u rfl D ?_);rw[if_pos (show (Oh T != Pm)=true from by simp)];refine O6 (RK v i k ?_);rw[if_neg (show ¬((Pm==rawInt L)=true) from by simp[rawInt])];refine O6 (Sw v i (SV.mp k).1 ?_);have other:∀b,b≠T->(s.heap.update T (QW (·.setIfInBounds 3 Pm))).get? b=s.heap.get? b:=λb a=>P8 _ _ (Pz a)
  have c:∀b o,s.heap.get? b=ρ o->(∀y,o.data≠.fields y)->b≠T:=λb o a d q=>by
   rw[q,v]at a;injection a with a;subst a;exact d z i
  have f:(s.heap.update T (QW (·.setIfInBounds 3 Pm))).objs.size=s.8:=Heap.size_after_update ..;refine oX (s:={s with heap:=s.heap.update T (QW (·.setIfInBounds 3 Pm))}) l (hl.of_keeps λb o a d=>{o,(other b (c b o a d)).trans a,rfl}) I (by show lo<=_;rw[f];exact p) (λb a=>g b (by rw[<-f];exact a)) m n ((other e (Pz x)).trans u) rfl rfl rfl r λh' G P=>h h' G {λb o a hx hn=>P.keep b o ((other b ?_).trans a) hx hn,λb o a B=>P.slot b o ((other b ?_).trans a) B}
  .rintro rfl;rcases hx with hx |hx
   .exact absurd (O7 hx t) (OX _)
   .exact hx w
  .rintro rfl
   let{_,N,j,d}:=hl.mem B
   rw[v]at j;injection j with j;subst j
   exact d z i
theorem tX{Q:Unit->Shared->Prop}(F:A9 lo H s.heap e C od)(h:∀h',A9 lo H h' e C od->(∀b o,s.heap.get? b=ρ o->(b<lo\/H b≠τ)->h'.get? b=ρ o)->Q .unit {s with heap:=h'}) :
 wpAny M A (TU (.ref e) τ) Q E s:=by
 let{g,i,p,sl,n,j,f}:=F
 unfold TU;rcases f with f |⟨T,v,u,r,a,k,l,t,d,f⟩
 .refine O6 (RK n rfl f ?_);rw[if_neg ⋯];exact Oo (h _ {g,i,p,sl,n,j,.inl f} λb o q _=>q)
 .have c:3<u.size:=(SV.mp f).1;refine O6 (RK n rfl r ?_);rw[if_pos (show (Oh T != Pm)=true from by simp)];refine Sw t d c (h _ {g,i,p,sl,?_,j,.inr {T,_,_,r,a,k,l,QE _ t (RU (R5 d _)),R5 d _,by simp[c]}} λb o q m=>?_)
  .exact(P8 _ _ l).trans n
  .refine(P8 _ _ ?_).trans q;rintro rfl;rcases m with m |m
   .exact absurd (O7 m a) (OX _)
   .exact m k
end
section
variable{a:Addr}
theorem Paired.CQ{α β:Type}{F G:α->β->Prop}:∀{g:List α} {j:List β},Paired F g j->(∀a b,F a b->G a b)->Paired G g j
 |_,_,.nil,_=>.nil
 |_,_,.cons r t,f=>.cons (f _ _ r) (Paired.CQ t f)
inductive Ht(K:O4)(neg:Bool)(x y:V)(H:Hp)(Q:VK):Prop
 |mk (p xs) (_:y=.ref p) (_:(aK K H p xs\/eI K H p xs)) (_:cC x=true) (_:xs.all cC=true) (_:Q (.bl (if neg then !xO x xs else xO x xs)) H)
theorem KT.keeps(r:KT H kvs xs)(g:∀b ys,H b=ρ (.tup ys)->j b=ρ (.tup ys)):KT j kvs xs:=
 Paired.CQ r λ_ _ z=>{z.1,g _ _ z.2.1,z.2.2}
end
section
variable(P:Om)(w:World)
def b6(H:Hp)(h:Heap)(a:Addr):HO->Prop
 |.lst xs=>xs.9<=sizeLine/\∃(its:List Value) (n:Nat),Vals xs its/\h.get? a=ρ {cls:=.type "list",data:=.seq its.toArray n}
 |.tup xs=>xs.9<=sizeLine/\∃its:List Value,Vals xs its/\IsTup h a its.6
 |.dK kvs=>kvs.9<=sizeLine/\(a==Q8)=false/\∃vs,KV kvs vs/\h.DictOf (aR P w) a vs
 |.dT kvs=>kvs.9<=sizeLine/\(a==Q8)=false/\∃xs:List (List Key×Addr×Value),
   Paired (λ(p:List Key×V) (q:List Key×Addr×Value)=>p.1=q.1/\H q.2.1=ρ (.tup (p.1.map kV))/\RelV p.2 q.2.2) kvs xs /\
   ∃o es ep,h.get? a=ρ o/\o.ExactDict/\o.data=.dict es ep/\es.toList=xs.map (entryOfKey (TV (aR P w)))/\(xs.map (·.1)).Nodup
 |.set S n=>h.SetOf (intKind P w) a S n
 |.ins C dx fs=>H dx=ρ (.own a)/\fs.9<=1000/\dx≠a/\h.get? a=ρ (Qf C dx) /\
   ∃mA,h.Ns1 dx mA/\(∀f,gd (fs.lookup f) (mA f))/\V6 mA (fs.map (·.1))
 |.own _=>∃o,h.get? a=ρ o
 |.xd fs=>∃mA,h.Ns1 a mA/\∀f,gd (fs.lookup f) (mA f)
 |.rng lo hi=>∃t u v,h.get? a=ρ {cls:=.type "range",data:=.fields #[.int lo t,.int hi u,.int 1 v]}
 |.frz o u=>h.get? a=ρ o/\b6 H h a u
 |.tbl ps=>h.get? a=ρ {cls:=.none,data:=.fields ps}
 |.met f x=>h.get? a=ρ (T4 (.ref f) (.ref x))
 |.ext φ=>φ h/\(∃o,h.get? a=ρ o)/\∀h1 h2:Heap,φ h1->(∀o,h1.get? a=ρ o->h2.get? a=ρ o)->φ h2
def fw(H:Hp)(h:Heap):Prop:=∀a o,H a=ρ o->b6 P w H h a o
end
section
variable{te:TE}{tl th:TO}
theorem Rd.ok{P:Om}{w:World}{H:Hp}{h:Heap}{a:Addr}{u:HO}(r:Rd H a u)(x:fw P w H h):b6 P w H h a u:=by
 rcases r with r |⟨o,r⟩
 .exact x a u r
 .let{_,q}:=x a _ r
  exact q
structure Inv(X:Cx)(pins:List (Addr×Obj))(σ:List (Option V))(H:Hp)(s:Shared):Prop where
 ok:X.Ok
 os:s.os=X.s₀.os
 bare:AllBare s.gens
 base:Un X.fs X.ex X.H₀ H X.s₀.heap s.heap
 loc:∃m,s.heap.Ns X.env.locals m/\∀(i:Nat) (x:Str) (v:V),X.N[i]?=ρ x->σ[i]?=ρ (ρ v)->Cz X.env.scope x->∃u,RelV v u/\Look X.env s.heap m x u
 cell:∀x c,X.env.cells.lookup x=ρ c->∃v,s.heap.IsCell c v
 free:H X.env.locals=τ
 da:∀x c,X.env.cells.lookup x=ρ c->H c=τ
 pin:∀p∈X.pn++pins,s.heap.get? p.1=ρ p.2/\H p.1=τ/\p.1≠X.env.locals/\p.1∉X.fs/\∀v,p.2.data≠.cell v
 aI:fw X.prog X.w H s.heap
 len:σ.9=X.N.9
def EP(X:Cx)(pins:List (Addr×Obj))(σ:St)(Q:VK)(u:Value)(s':Shared):Prop:=∃v H',Inv X pins σ H' s'/\RelV v u/\Q v H'
def TP(X:Cx)(pins:List (Addr×Obj))(σ:St)(Q:Bool->Hp->Prop)(b:Bool)(s':Shared):Prop:=∃H',Inv X pins σ H' s'/\Q b H'
def AP(X:Cx)(pins:List (Addr×Obj))(σ:St)(Q:List V->Hp->Prop)(us:List Value)(s':Shared):Prop:=∃vs H',Inv X pins σ H' s'/\Vals vs us/\Q vs H'
abbrev PE(X:Cx)(e:Expr)(t:TE):Prop:=Bx (∀(pins:List (Addr×Obj)) (s:Shared) (σ:St) (H:Hp) (Q:VK),Inv X pins σ H s->t σ H Q->wpAny (model X.prog X.w) X.A (eval e X.5) (EP X pins σ Q) X.xe s)
abbrev PT(X:Cx)(e:Expr)(t:TT):Prop:=Bx (∀(pins:List (Addr×Obj)) (s:Shared) (σ:St) (H:Hp) (Q:Bool->Hp->Prop),Inv X pins σ H s->t σ H Q->wpAny (model X.prog X.w) X.A (isTrue e X.env (eval e X.5)) (TP X pins σ Q) X.xe s)
abbrev PW(X:Cx)(e:Expr)(t:TT):Prop:=Bx (∀(whole:Sem Value) (pins:List (Addr×Obj)) (s:Shared) (σ:St) (H:Hp) (Q:Bool->Hp->Prop),Inv X pins σ H s->t σ H Q->wpAny (model X.prog X.w) X.A (isTrue e X.env whole) (TP X pins σ Q) X.xe s)
theorem PW.pt{X:Cx}{e:Expr}{t:TT}(h:PW X e t):PT X e t:={h _}
abbrev PA(X:Cx)(es:List Expr)(t:TA):Prop:=Bx (∀(pos:Pos) (pins:List (Addr×Obj)) (s:Shared) (σ:St) (H:Hp) (Q:List V->Hp->Prop),Inv X pins σ H s->t σ H Q->wpAny (model X.prog X.w) X.A (spliced (backTo pos (starEach es X.5))) (AP X pins σ Q) X.xe s)
abbrev PG(X:Cx)(target:Expr)(t:TG):Prop:=Bx (∀(pins:List (Addr×Obj)) (s:Shared) (σ:St) (H:Hp) (v:V) (u:Value) (Q:St->Hp->Prop),Inv X pins σ H s->RelV v u->t v σ H Q ->
  wpAny (model X.prog X.w) X.A (assign target X.env u) (λ_ s'=>∃σ' H',Inv X pins σ' H' s'/\Q σ' H') X.xe s)
abbrev Gd(X:Cx)(ts:List Expr)(t:G8):Prop:=Bx (∀(pins:List (Addr×Obj)) (s:Shared) (σ:St) (H:Hp) (vs:List V) (us:List Value) (Q:St->Hp->Prop),Inv X pins σ H s->Vals vs us->t vs σ H Q ->
  wpAny (model X.prog X.w) X.A (assignInOrder ((Rk ts X.5).map (·.2)) us) (λ_ s'=>∃σ' H',Inv X pins σ' H' s'/\Q σ' H') X.xe s)
def Ge(X:Cx)(op:Operator)(t:G9):Prop:=
 ∀(pins:List (Addr×Obj)) (s:Shared) (σ:St) (H:Hp) (x y:V) (v u:Value) (Q:VK),Inv X pins σ H s->RelV x v->RelV y u->t x y H Q ->
  wpAny (model X.prog X.w) X.A (inplaceOp op v u) (EP X pins σ Q) X.xe s
structure Turn(P:Om)(w:World)(K:O4)(tg:Expr)(J:It)(fp:List Addr)(it:Addr)(tn:Nat->Heap->Prop):Prop where
 mem:it∈fp
 obj:∀i h,tn i h->∀b∈fp,∃o,h.get? b=ρ o/\∀v,o.data≠.cell v
 keep:∀i h h',tn i h->(∀b∈fp,∀o,h.get? b=ρ o->h'.get? b=ρ o)->tn i h'
 item:∀(X:Cx),X.prog=P->X.w=w->X.K=K->X.calm=true->∀(i:Nat) (pins:List (Addr×Obj)) (s:Shared) (σ:St) (H:Hp) (E:Value->Shared->Prop),Inv X pins σ H s->(∀b∈fp,ib X pins H b)->tn i s.heap->J.go i H ->
  wpAny (model P w) X.A (pyNext (.ref it)) (λr s1=>∃u,r=ρ u /\
   wpAny (model P w) X.A (RY tg (.ref it) u) (λ_ s2=>∃x H',Inv X pins σ H' s2/\RelV x u/\J.tJ i H x H'/\tn (i+1) s2.heap/\∀b∈fp,H' b=τ) E s1) E s
 done:∀(X:Cx),X.prog=P->X.w=w->X.K=K->X.calm=true->∀(i:Nat) (pins:List (Addr×Obj)) (s:Shared) (σ:St) (H:Hp) (E:Value->Shared->Prop),Inv X pins σ H s->(∀b∈fp,ib X pins H b)->tn i s.heap->J.stop i H ->
   wpAny (model P w) X.A (pyNext (.ref it)) (λr s1=>r=τ/\Inv X pins σ H s1) E s
 self:∀(A:Around) (i:Nat) (s:Shared) (Q:Value->Shared->Prop) (E:Value->Shared->Prop),tn i s.heap->Q (.ref it) s->wpAny (model P w) A (pyIter (.ref it)) Q E s
def EV(X:Cx)(pins:List (Addr×Obj))(σ:St)(tg:Expr)(R:It->Hp->Prop)(Gf:Value)(s2:Shared):Prop:=
 ∃(it:Addr) (fp:List Addr) (tn:Nat->Heap->Prop) (J:It) (H':Hp),Gf=.ref it/\Inv X pins σ H' s2/\Turn X.prog X.w X.K tg J fp it tn/\tn 0 s2.heap/\(∀b∈fp,ib X pins H' b)/\R J H'
abbrev PI(X:Cx)(tg iter:Expr)(wi:TI):Prop:=Bx (∀(pins:List (Addr×Obj)) (s:Shared) (σ:St) (H:Hp) (R:It->Hp->Prop),Inv X pins σ H s->wi σ H R ->
  wpAny (model X.prog X.w) X.A (eval iter X.5) (λv s1=>wpAny (model X.prog X.w) X.A (pyIter v) (EV X pins σ tg R) X.xe s1) X.xe s)
def ie(X:Cx)(f:Value->Value->Sem Value)(r:R2):Prop:=
 ∀(pins:List (Addr×Obj)) (s:Shared) (σ:St) (H:Hp) (x y:V) (v u:Value) (Q:VK),Inv X pins σ H s->RelV x v->RelV y u->r x y H Q ->
  wpAny (model X.prog X.w) X.A (f v u) (EP X pins σ Q) X.xe s
def Hu(X:Cx)(f:Value->Sem Value)(r:V->Hp->VK->Prop):Prop:=
 ∀(pins:List (Addr×Obj)) (s:Shared) (σ:St) (H:Hp) (x:V) (v:Value) (Q:VK),Inv X pins σ H s->RelV x v->r x H Q ->
  wpAny (model X.prog X.w) X.A (f v) (EP X pins σ Q) X.xe s
theorem xX.ok{i j:Int}(h:xX i j):IntMulOk i j:=by
 rcases h with⟨a,b⟩ |⟨a,b⟩
 .exact .of_left (intBits_le_64 a b)
 .exact .of_right (intBits_le_64 a b)
def CE(outer:List Env)(P:Om)(w:World)(H:Hp)(s:Shared)(Q:VK)(u:Value)(s':Shared):Prop:=
 ∃v H',s'.os=s.os/\AllBare s'.gens/\Un (lM outer) [] H H' s.heap s'.heap/\fw P w H' s'.heap/\RelV v u/\Q v H'
def CR(CX:we)(outer:List Env)(P:Om)(w:World)(H:Hp)(s:Shared)(Q:VK)(E:XK)(r:S1)(s':Shared):Prop:=
 match r with
 |.ok (.ret u)=>CE outer P w H s Q u s'
 |.ok _=>False
 |.error e=>CX outer H s E e s'
abbrev PK(X:Cx)(KP:List Vj)(t:TA):Prop:=Bx (∀(pos:Pos) (pins:List (Addr×Obj)) (s:Shared) (σ:St) (H:Hp) (Q:List V->Hp->Prop),Inv X pins σ H s->t σ H Q->wpAny (model X.prog X.w) X.A (evalAll ((backToKw pos (QJ KP X.5)).map (·.2))) (AP X pins σ Q) X.xe s)
abbrev PO(X:Cx)(e:Option Expr)(t:TO):Prop:=Bx (∀(pins:List (Addr×Obj)) (s:Shared) (σ:St) (H:Hp) (Q:Option Int->Hp->Prop),Inv X pins σ H s->t σ H Q ->
  wpAny (model X.prog X.w) X.A (evalPart e X.5) (λu s'=>∃o H',Inv X pins σ H' s'/\IsPart u o/\Q o H') X.xe s)
def KQ(r:V->Option Int->Option Int->Hp->VK->Prop)(te:TE)(tl th:TO):TE:=λσ H Q=>te σ H λx H1=>tl σ H1 λl H2=>th σ H2 λu H3=>r x l u H3 Q
def DY(X:Cx)(r:R2):Prop:=
 ∀(value slice:Expr) (pins:List (Addr×Obj)) (s:Shared) (σ:St) (H:Hp) (x y:V) (v u:Value) (Q:VK),Inv X pins σ H s->RelV x v->RelV y u->r x y H Q ->
  U3 slice false v u=operate [v,u] (getItem v u)->wpAny (model X.prog X.w) X.A (UD value slice v u) (EP X pins σ Q) X.xe s
theorem rJ(h:Heap)(g:Q8<h.7):b6 P w H (h.push {cls:=.type "dict",data:=.dict #[]}) h.objs.size (.dK []):=
 {OZ _,beq_eq_false_iff_ne.mpr (Pz (Oe g)),[],.nil,Heap.DictOf.new h}
abbrev Gg(X:Cx)(pos:Pos)(keys:List (Option Expr))(values:List Expr)(Ho:List (TE×TE)):Prop:=Bx (∀(pins:List (Addr×Obj)) (s:Shared) (σ:St) (H:Hp) (Q:List (V×V)->Hp->Prop),Inv X pins σ H s->tN Ho σ H Q ->
  wpAny (model X.prog X.w) X.A (evalPairs (pairTrees keys values X.env pos)) (λvs s'=>∃ps H',Inv X pins σ H' s'/\VV ps vs/\Q ps H') X.xe s)
theorem Au{X:Cx}:Gg X pos [] [] []:={λa s σ H Q I h=>pairTrees_nil_walk {[],H,I,.nil,h}}
theorem ym{X:Cx}(hk:PE X k tk)(j:PE X v l)(o:Gg X pos p vs g) :
 Gg X pos (ρ k::p) (v::vs) ((tk,l)::g):={λa s σ H Q I h=>
 pairTrees_cons_walk (bb (hk a s σ H _ I h) λu b ⟨x,c,d,e,f⟩=>bb (j a b σ c _ d f) λw2 i ⟨y,m,n,q,r⟩=>
  bb (o a i σ m _ n r) λA B ⟨ps,t,w,rel,z⟩=>{(x,y)::ps,t,w,.cons ⟨e,q⟩ rel,z})}
noncomputable def oY(P:Om)(w:World):we:=λouter H s E ev s'=>∃e C od H',ev=.ref e/\s'.os=s.os/\AllBare s'.gens/\Un (lM outer) [] H H' s.heap s'.heap/\fw P w H' s'.heap/\A9 s.heap.objs.size H' s'.heap e C od/\E (.ref C) od H'
def vj(X:Cx)(E:XK):Prop:=∀(pins:List (Addr×Obj)) (σ:St) (H:Hp) (s:Shared) (e C:Addr) (od:Option Addr),Inv X pins σ H s->A9 X.s₀.heap.objs.size H s.heap e C od->E (.ref C) od H->X.xe (.ref e) s
abbrev PJ(X:Cx)(es:List Expr)(t:TJ):Prop:=Bx (∀(pins:List (Addr×Obj)) (s:Shared) (σ:St) (H:Hp) (acc:Str) (Q:Str->Hp->Prop),Inv X pins σ H s->t acc σ H Q ->
 wpAny (model X.prog X.w) X.A (joinParts acc (evalEach es X.5)) (λu s'=>∃z H',Inv X pins σ H' s'/\(∃tk,u=.str z tk)/\Q z H') X.xe s)
end
section
variable{X:Cx}{pins:List (Addr×Obj)}{σ:List (Option V)}{H H':Hp}{s:Shared}{h':Heap}
theorem Cx.Ok.Hv(ok:X.Ok)(e:X.base.get? b=ρ o):b∉X.fs:=λa=>by
 have:=(ok.iC.mem a).1;rw[e]at this;cases this
theorem Inv.bs(I:Inv X pins σ H s):∀b o,X.base.get? b=ρ o->s.heap.get? b=ρ o/\H b=τ:=λb o e=>
 {I.base.keep b o (I.ok.bs b o e).1 (I.ok.bs b o e).2 (I.ok.Hv e) (I.ok.pQ b o e),I.base.free b o (I.ok.bs b o e).1 (I.ok.bs b o e).2 (I.ok.pQ b o e)}
theorem Inv.bk(I:Inv X pins σ H s):∀b o,X.base.get? b=ρ o->s.heap.get? b=ρ o:=λb o e=>(I.bs b o e).1
theorem Inv.mod(I:Inv X pins σ H s):Mod X.K X.mg X.base:=I.ok.mod
theorem Inv.dC(I:Inv X pins σ H s):X.K.In s.heap:=I.ok.mod.BU.keeps I.bk
theorem Inv.tY(I:Inv X pins σ H s):∀x c,X.env.cells.lookup x=ρ c->c≠X.env.locals:=λx c e z=>by
 let{v,o,d,hd}:=I.cell x c e
 let{m,{f,g,h,a,b,_},_}:=I.loc
 rw[z,a]at d;cases d;rw[b]at hd;cases hd
theorem Inv.iC(I:Inv X pins σ H s):s.heap.FunFrames X.base X.outer:=by
 have all:∀(l:List Env),(∀b∈lM l,b∈X.fs)->X.s₀.heap.FunFrames X.base l->s.heap.FunFrames X.base l:=by
  intro l
  induction l with
  |nil=>intro _ _;trivial
  |cons env r g=>
   intro f hl
   let{hk,{L,o,a,hn,h,hd},i}:=hl
   have c:L∈X.fs:=f L (by delta lM;rw[Sq,a];exact Ot)
   let{sl,e}:=I.base.slot L o h (I.ok.A8 L c) c λz=>I.ok.tI L z c
   exact{hk,{L,_,a,hn,e,hd},g (λb d=>f b (by delta lM;rw[Sq,a];exact Of _ d)) i}
 exact all X.outer (λ_ d=>d) I.ok.iC
theorem Inv.stack(I:Inv X pins σ H s):s.heap.FunFrames X.base X.stack:=by
 rcases I.ok.CA with e |⟨e,a⟩
 .rw[e];exact I.iC
 .rw[e]
  let{m,hn,_}:=I.loc
  refine .cons (by rw[I.ok.kind];decide) a hn ?_ I.iC;exact Heap.get?_none_of_le (Od I.ok.uV I.ok.above)
theorem Inv.gr(I:Inv X pins σ H s):∀b∈lM X.stack,b∈X.env.locals::X.fs:=λb a=>by
 rcases I.ok.CA with e |⟨e,c⟩
 .grind
 .grind [lM]
theorem Inv.j6(I:Inv X pins σ H s):∀b∈lM X.stack,H b=τ:=λb a=>by
 rcases Oi.mp (I.gr b a) with e |a
 .rw[e];exact I.free
 .let{_,o,c,_}:=I.ok.iC.mem a
  exact I.base.free b o c (I.ok.A8 b a) λz=>I.ok.tI b z a
theorem Inv.step{g':Array Rr}{t':Nat}{d':Drawn}{ch:List Addr}(I:Inv X pins σ H s)
 (g:∀b∈ch,(b∈X.ex\/X.s₀.8<=b)/\b≠X.env.locals/\(∀x c,X.env.cells.lookup x=ρ c->c≠b)/\∀p∈X.pn++pins,p.1≠b)
 (keep:∀b o,b≠X.env.locals->b∉X.fs->b∉ch->s.heap.get? b=ρ o->H b=τ->h'.get? b=ρ o)
 (slot:∀b o,b≠X.env.locals->b∈X.fs->b∉ch->s.heap.get? b=ρ o->H b=τ->∃sl,h'.get? b=ρ {o with slots:=sl}) (free:∀b o,b∉ch->s.heap.get? b=ρ o->H b=τ->H' b=τ)
 (there:∀b o,b∉ch->s.heap.get? b=ρ o->∃C,h'.get? b=ρ C)
 (iZ:∀b xs,H b=ρ (.tup xs)->H' b=ρ (.tup xs)) (iB:∀b o u,H b=ρ (.frz o u)->H' b=ρ (.frz o u)) (j0:∀b ps,H b=ρ (.tbl ps)->∃more,H' b=ρ (.tbl (ps++more)))
 (ns:∀m,s.heap.Ns X.env.locals m->h'.Ns X.env.locals m) (aI:fw X.prog X.w H' h') (J:AllBare g') :
 Inv X pins σ H' {s with heap:=h',gens:=g',drawn:=d',toks:=t'}:=by
 have A:∀b o,X.s₀.heap.get? b=ρ o->b≠X.env.locals:=λb o e=>Oe (O7 (Oa e) I.ok.above)
 have h:∀b o,X.s₀.heap.get? b=ρ o->b∉X.ex->b∉ch:=λb o e hx t=>by
  rcases(g b t).1 with z |z
  .exact hx z
  .exact absurd (O7 (Oa e) z) (OX _)
 have a:∀x c,X.env.cells.lookup x=ρ c->∀v,s.heap.IsCell c v->h'.IsCell c v:=λx c e v ⟨o,y,hd⟩=>by
  have f:c∉ch:=λz=>(g c z).2.2.1 x c e rfl
  by_cases hc:c∈X.fs
  .let{sl,q}:=slot c o (I.tY x c e) hc f y (I.da x c e)
   exact{_,q,hd}
  .exact{o,keep c o (I.tY x c e) hc f y (I.da x c e),hd}
 refine{I.ok,I.os,J,{λb o e n t hx=>?_,λb o e n t hx=>?_,λb o e n hx=>?_,λb o e hx=>?_,λb xs e=>iZ b xs (I.base.iZ b xs e),λb o xs e=>iB b o xs (I.base.iB b o xs e),λb ps e=>?_},?_,λx c e=>?_,?_,λx c e=>?_,λp E=>?_,aI,I.len}
 .exact keep b o (A b o e) t (h b o e hx) (I.base.keep b o e n t hx) (I.base.free b o e n hx)
 .let{sl,j}:=I.base.slot b o e n t hx
  let{D,B}:=slot b _ (A b o e) t (h b o e hx) j (I.base.free b o e n hx)
  exact⟨D,B⟩
 .let{C,j}:=I.base.there b o e hx
  exact free b C (h b o e hx) j (I.base.free b o e n hx)
 .let{C,j}:=I.base.there b o e hx
  exact there b C (h b o e hx) j
 .let{L,j}:=I.base.j0 b ps e
  let{M,B}:=j0 b _ j
  exact{L++M,by rw[B,Array.append_assoc]}
 .let{m,hn,hl}:=I.loc
  refine{m,ns m hn,λi x v j B N=>?_}
  let{u,r,l}:=hl i x v j B N
  refine{u,r,?_};rcases l with l |⟨k,c,e,z⟩
  .exact .inl l
  .exact .inr {k,c,e,a x c e _ z}
 .let{v,z}:=I.cell x c e
  exact{v,a x c e v z}
 .let{m,{o,_,_,y,_},_}:=I.loc
  exact free _ o (λz=>(g _ z).2.1 rfl) y I.free
 .let{v,o,y,hd}:=I.cell x c e
  exact free c o (λz=>(g c z).2.2.1 x c e rfl) y (I.da x c e)
 .let{e,n,ne,G,d}:=I.pin p E
  have f:p.1∉ch:=λz=>(g p.1 z).2.2.2 p E rfl;exact{keep p.1 p.2 ne G f e n,free p.1 p.2 f e n,ne,G,d}
theorem Inv.un{t':Nat}(I:Inv X pins σ H s)(u:Un X.fs [] H H' s.heap h')(aI:fw X.prog X.w H' h'):Inv X pins σ H' {s with heap:=h',toks:=t'}:=by
 let{m,{o,k,l,g,r},_}:=id I.loc
 let{sl,h}:=u.any g I.free (by simp)
 exact I.step (g':=s.gens) (d':=s.drawn) (ch:=[]) (λ_ z=>nomatch z) (λb o _ c _ e n=>u.keep b o e n c (by simp)) (λb o _ c _ e n=>u.slot b o e n c (by simp)) (λb o _ e n=>u.free b o e n (by simp)) (λb o _ e=>u.there b o e (by simp)) u.iZ u.iB u.j0 (λp i=>by
  let{q,d,f,a,j}:=i
  rw[g]at a;cases a
  exact{_,d,f,h,j}) aI I.bare
theorem Inv.call{g':Array Rr}{t':Nat}{d':Drawn}{ch:List Addr}(I:Inv X pins σ H s)(u:Un (lM X.stack) ch H H' s.heap h')(aI:fw X.prog X.w H' h')(j:AllBare g')
 (g:∀b∈ch,(b∈X.ex\/X.s₀.8<=b)/\b≠X.env.locals/\(∀x c,X.env.cells.lookup x=ρ c->c≠b)/\∀p∈X.pn++pins,p.1≠b) :
 Inv X pins σ H' {s with heap:=h',gens:=g',drawn:=d',toks:=t'}:=by
 let{m,{o,t,v,i,r},_}:=id I.loc
 let{sl,d}:=u.any i I.free λz=>(g _ z).2.1 rfl
 exact I.step (ch:=ch) g (λb o d k hc e n=>u.keep b o e n (λz=>(Oi.mp (I.gr b z)).elim d k) hc) (λb o _ _ hc e n=>u.any e n hc) (λb o hc e n=>u.free b o e n hc) (λb o hc e=>u.there b o e hc) u.iZ u.iB u.j0 (λy l=>by
  let{A,f,h,a,q}:=l
  rw[i]at a;cases a
  exact{_,f,h,d,q}) aI j
theorem Inv.vk(I:Inv X pins σ H s)(h:∀p∈g,s.heap.get? p.1=ρ p.2/\H p.1=τ/\p.1≠X.env.locals/\p.1∉X.fs/\∀v,p.2.data≠.cell v):Inv X g σ H s:=
 {I.ok,I.os,I.bare,I.base,I.loc,I.cell,I.free,I.da,λp a=>(P2.mp a).elim (λz=>I.pin p (S2 _ z)) (h p),I.aI,I.len}
theorem Inv.oZ(I:Inv X pins σ H s)(j:s'.os=s.os)(u:Un (lM X.stack) ch H H' s.heap s'.heap)(aI:fw X.prog X.w H' s'.heap)(l:AllBare s'.gens)
 (g:∀b∈ch,(b∈X.ex\/X.s₀.8<=b)/\b≠X.env.locals/\(∀x c,X.env.cells.lookup x=ρ c->c≠b)/\∀p∈X.pn++pins,p.1≠b):Inv X pins σ H' s':=by
 let{h',g',d',t',a}:=s'
 have e:a=s.os:=j;subst e;exact I.call (g':=g') (t':=t') (d':=d') u aI l g
structure Ends where
 nx:St->Hp->Prop
 rt:VK
 bk:St->Hp->Prop:=λ_ _=>False
 ct:St->Hp->Prop:=λ_ _=>False
noncomputable abbrev Ends.Hw(D:Ends)(N:St->Hp->Prop):Ends:=⟨N,D.rt,D.bk,D.ct⟩
noncomputable abbrev Ends.lp(D:Ends)(N:St->Hp->Prop):Ends:=⟨N,D.rt,D.nx,N⟩
noncomputable abbrev TS:=Ends->St->Hp->Prop
theorem tZ(j:X.N[i]?=ρ x)(o:Cz X.env.scope x)(hd:(x==("__debug__":Str))=false:=by decide)(g:(x==("__classdict__":Str))=false:=by decide):PE X (.Name x pos) (fu i):=by
 refine{?_};intro b s σ H Q I h
 let{v,e,h}:=h
 let{m,hn,hl}:=I.loc
 let{u,r,l}:=hl i x v j e o
 have fin:EP X b σ Q u s:=⟨v,H,I,r,h⟩;rcases l with⟨hk,d⟩ |⟨hk,c,hc,a⟩
 .exact RE (Qi I.ok.kind hk hn d fin) hd
 .rcases hk with hk |hk
  .exact RE (UJ I.ok.kind hk hc a fin) hd
  .exact RE (wpAny_loadName_free I.ok.kind hk hc a fin g) hd
theorem bI{b j pos}:PE X (.Constant (.bool b) j pos) (tC (.bl b)):={λ_ _ _ H _ I h=>Constant_bool {.bl b,H,I,rfl,h}}
theorem cU{j pos}:PE X (.Constant .none j pos) (tC .non):={λ_ _ _ H _ I h=>Constant_none {.non,H,I,rfl,h}}
def CU:TS:=λ_ _ _=>False
theorem bN:Gd X [] GO:=by
 refine{?_};intro a s σ H b c Q I r h
 let{e,h}:=h
 subst e;cases r;exact assignInOrder_nil ⟨σ,H,I,h⟩
theorem az{e:Expr}{g:List Expr}{t:TG}{u:G8}(j:PG X e t)(l:Gd X g u)
 (o:(Rk (e::g) X.5).map (·.2)=assign e X.5::(Rk g X.5).map (·.2):=by rfl):Gd X (e::g) (Eh t u):=by
 refine{?_};intro a s σ H n p Q I r h
 let{v,q,c,h}:=h
 subst c
 cases r with
 |cons r d=>
  rw[o];refine assignInOrder_cons (bb (j a s σ H _ _ _ I r h) λ_ f ⟨b,i,k,m⟩=>?_);exact l a f b i _ _ Q k d m
structure bA(k:Nat)(A:Around):Prop where
 hd:A.handled=τ
 dp:A.depth+3*k+5<recursionLimit
 un:A.units+16*k+200<Rq
theorem bA.mono(r:bA k A)(h:j<=k):bA j A:={r.hd,by have:=r.dp;lia,by have:=r.un;lia}
theorem bA.deeper(r:bA (k+1) A)(env:Env):bA k (A.deeper env):=
 {r.hd,by have:=r.dp;show A.depth+1+3*k+5<_;lia,by have:=r.un;show A.units+3+16*k+200<_;lia}
theorem bA.make(r:bA (k+1) A)(C:Addr)(us:List Value)(g:List (Str×Value)):bA k (A.under (.builtin "type.__call__" {.ref C::us,g})):=
 {r.hd,by have:=r.dp;rw[tL];lia,by have:=r.un;rw[tM];lia}
theorem bA.depth(r:bA k A):A.depth<recursionLimit:=by have:=r.dp;lia
theorem bA.units(r:bA k A):A.units+64<Rq:=by have:=r.un;lia
theorem bA.yn(r:bA k A):A.units<Rq:=by have:=r.un;lia
theorem mn:PA X [] nU:={λ_ _ _ _ H Q I h=>Vo {[],H,I,.nil,h}}
theorem dD:PO X τ Am:=by
 refine{?_};intro a s σ H Q I h;rw[evalPart_none];exact Oo {τ,H,I,.none,h}
theorem mq:∀{kvs:List (Key×V)} {ws:List (Value×Value)},VV (kvs.map λj=>(kV j.1,j.2)) ws->∃g,Carries (aR P w) ws g/\KV kvs g
 |[],_,r=>by rw[Rf]at r;cases r;exact{[],PN,.nil}
 |p::kvs,_,r=>by
  rw[Og]at r
  cases r with
  |@cons a b as bs h t=>
   let{g,c,q}:=mq (P:=P) (w:=w) t
   let{e,d}:=b
   exact{(p.1,d)::g,{rD h.1,rfl,c},.cons ⟨rfl,h.2⟩ q}
theorem fO(g:bA k A):A.units+1<Rq:=QZ (Nat.add_le_add_left (by decide:1<=64) _) g.units
theorem pv(i:Nat)(j:X.N[i]?=ρ x:=by rfl)(l:Cz X.env.scope x:=by first |exact Rv rfl |exact Or.inr (Rv rfl) |exact Or.inr (Or.inr rfl))(hd:(x==("__debug__":Str))=false:=by decide)
 (g:(x==("__classdict__":Str))=false:=by decide):PE X (.Name x pos) (fu i):=tZ j l hd g
theorem kG:∀{us:List Value},Vals (bs.map V.bl) us->LSm.BoolsAre us bs:=by
 induction bs with
 |nil=>intro us r;rw[Rf]at r;cases r;exact .nil
 |cons n ns a=>
  intro us r;rw[Og]at r
  cases r with
  |cons b c=>
   cases b;exact .cons n (a c)
noncomputable abbrev DZ:=(St->XK)->TS
end
section
variable{X:Cx}
noncomputable abbrev Ends.fn(Q:VK):Ends:={λ_ H'=>Q .non H',Q,λ_ _=>False,λ_ _=>False}
theorem eA{E:Value->Shared->Prop}{Q:Value->Shared->Prop}(I:Inv X g σ H s)(j:Gl X x)(l:X.mg x=ρ u)(h:Q u s)
 (hd:(x==("__debug__":Str))=false:=by decide):wpAny (model X.prog X.w) X.A (eval (.Name x pos) X.5) Q E s:=
 SW I.ok.kind j (Calls.loadGlobal_global (by rw[I.ok.glob];exact I.mod.glob.keeps I.bk) l h) hd
theorem iI{E:Value->Shared->Prop}{Q:Value->Shared->Prop}(I:Inv X g σ H s)(j:Gl X x)(l:X.mg x=τ)(o:P7 x=ρ u)(h:Q u s)
 (hn:x≠"__name__":=by decide) (hd:(x==("__debug__":Str))=false:=by decide):wpAny (model X.prog X.w) X.A (eval (.Name x pos) X.5) Q E s:=by
 let{c,a,b}:=I.mod.blt
 exact SW I.ok.kind j (Calls.loadGlobal_builtin (by rw[I.ok.glob];exact I.mod.glob.keeps I.bk) l (by rw[I.ok.blt];exact a.keeps I.bk) ((b x hn).trans o) h) hd
theorem c9(g:Gl X x)(j:X.mg x=ρ u)(r:RelV v u)(hd:(x==("__debug__":Str))=false:=by decide):PE X (.Name x pos) (tC v):=
 {λ_ _ _ H _ I h=>eA I g j ⟨v,H,I,r,h⟩ hd}
theorem hM(g:Gl X x)(j:X.mg x=τ)(l:P7 x=ρ u)(r:RelV v u)(hn:x≠"__name__":=by decide)(hd:(x==("__debug__":Str))=false:=by decide):PE X (.Name x pos) (tC v):=
 {λ_ _ _ H _ I h=>iI I g j l ⟨v,H,I,r,h⟩ hn hd}
def C8:TS:=λD σ H=>D.nx σ H
def CV:TS:=λD σ H=>D.bk σ H
theorem Inv.quiet(I:Inv X g σ H s):interactive X.5=false:=by simp[interactive,I.ok.kind]
def wm(te:TE)(g:TG):TS:=λD σ H=>te σ H λx H1=>g x σ H1 D.nx
inductive Hx(i:Nat)(te:TE)(ti:G9)(D:Ends)(σ:St)(H:Hp):Prop
 |mk (x) (_:σ[i]?=ρ (ρ x)) (_:te σ H λy H1=>ti x y H1 λz H2=>D.nx (σ.set i (ρ z)) H2)
def CY(c:TT)(tb:TS):TS:=λD σ H=>∃W:Nat->St->Hp->Prop,(∃m,W m σ H)/\∀m σ H,W m σ H ->
 c σ H λb H1=>if b=true then ∃N:St->Hp->Prop,(∀σ' H',N σ' H'->∃m',m'<m/\W m' σ' H')/\tb (D.lp N) σ H1 else D.nx σ H1
def CZ(wi:TI)(g:TG)(tb:TS):TS:=λD σ H=>wi σ H λJ H1=>∃W:Nat->Nat->St->Hp->Prop,(∃m,W 0 m σ H1)/\∀i m σ H,W i m σ H ->
 (J.stop i H/\D.nx σ H)\/(J.go i H/\∃N:St->Hp->Prop,(∀σ' H',N σ' H'->∃m',m'<m/\W (i+1) m' σ' H')/\∀x H',J.tJ i H x H'->g x σ H' λσ2 H2=>tb (D.lp N) σ2 H2)
theorem Inv.pinned(I:Inv X g σ H s)(l:∀b∈j,ib X g H b)(r:∀b∈j,∃o,s.heap.get? b=ρ o/\∀v,o.data≠.cell v):Inv X (g++iE j s.heap) σ H s:=
 I.vk λp f=>(P2.mp f).elim (λz=>I.pin p (Ow _ z)) λz=>by
  let{a,e}:=wc z
  let{h,f1,f2,_}:=l p.1 a
  let{o,c,d}:=r p.1 a
  rw[e]at c;cases c;exact⟨e,h,f1,f2,d⟩
theorem Inv.df(I:Inv X (g++pl) σ H s):Inv X g σ H s:=I.vk λp a=>I.pin p (Ow _ (S2 _ a))
theorem eR{K:O4}{a:Addr}{xs:List V}{g:TG}{t:TS}{D:Ends}{σ:St}{H:Hp}(Pv:Nat->St->Hp->Prop)(I:Pv 0 σ H)(hl:∀i σ H,i<=xs.9->Pv i σ H->aK K H a xs)
 (J:∀i x σ H,xs[i]?=ρ x->Pv i σ H->g x σ H λj r=>t (D.lp (Pv (i+1))) j r) (hd:∀σ H,Pv xs.length σ H->D.nx σ H) :
 ∃W:Nat->Nat->St->Hp->Prop,(∃m,W 0 m σ H)/\∀i m σ H,W i m σ H ->
  ((DX K a).stop i H/\D.nx σ H)\/((DX K a).go i H/\∃N:St->Hp->Prop,(∀l o,N l o->∃C,C<m/\W (i+1) C l o)/\∀x o,(DX K a).tJ i H x o->g x σ o λj r=>t (D.lp N) j r):=by
 refine{λi m σ H=>m=xs.9-i/\i<=xs.9/\Pv i σ H,{xs.9,by simp,OZ _,I},?_};rintro i m σ H ⟨rfl,hi,p⟩;have q:=hl i σ H hi p
 by_cases b:i<xs.9
 .refine .inr {{xs,xs[i],q,by simp[b]},Pv (i+1),λl o c=>{xs.9-(i+1),(),rfl,b,c},λx o y=>?_}
  let{e,y}:=y
  subst e;exact J i x σ _ (y xs q) p
 .have e:i=xs.9:=();subst e;exact .inl {{xs,q,Ob _},hd σ H p}
theorem cp{lo:Int}{n:Nat}{g:TG}{t:TS}{D:Ends}{σ:St}{H:Hp}(Pv:Nat->St->Hp->Prop)(I:Pv 0 σ H)
 (J:∀i σ H,i<n->Pv i σ H->g (.int (lo+i)) σ H λj r=>t (D.lp (Pv (i+1))) j r) (hd:∀σ H,Pv n σ H->D.nx σ H) :
 ∃W:Nat->Nat->St->Hp->Prop,(∃m,W 0 m σ H)/\∀i m σ H,W i m σ H ->
  ((BX lo n).stop i H/\D.nx σ H)\/((BX lo n).go i H/\∃N:St->Hp->Prop,(∀l o,N l o->∃C,C<m/\W (i+1) C l o)/\∀x o,(BX lo n).tJ i H x o->g x σ o λj r=>t (D.lp N) j r):=by
 refine{λi m σ H=>m=n-i/\i<=n/\Pv i σ H,{n,by simp,OZ _,I},?_};rintro i m σ H ⟨rfl,hi,p⟩
 by_cases a:i<n
 .refine .inr {a,Pv (i+1),λl o b=>{n-(i+1),(),rfl,a,b},λx o y=>?_}
  let{e,y}:=y
  subst e y;exact J i σ _ a p
 .have e:i=n:=();subst e;exact .inl {Ob _,hd σ H p}
theorem Av{f:Value->Value->Sem Value}{g:Int->Int->Bool}
 (rule:∀(i j:Int) (t u:Tok) (s:Shared) (Q:Value->Shared->Prop) (E:Value->Shared->Prop),Q (.bool (g i j)) s->wpAny (model X.prog X.w) X.A (f (.int i t) (.int j u)) Q E s) :
 ie X f (xN λi j=>.bl (g i j)):=by
 intro a s σ H x y v u Q I b c h
 let{i,j,rfl,rfl,q}:=h
 let{t,rfl}:=b
 let{d,rfl}:=c
 exact rule i j t d s _ _ {.bl (g i j),H,I,rfl,q}
theorem aJ(I:Inv X g σ H s)(q:Q (.bl k) H)(e:k=j):EP X g σ Q (.bool j) s:=by
 subst e;exact{.bl k,H,I,rfl,q}
theorem dg:ie X (Pj .Eq) Jd:=by
 intro e s σ H x y v u Q I d a h
 let{c,q}:=h
 cases x with
 |non=>
  cases d
  cases y with
  |non=>cases a;exact PySem.EqNone.eq_none_none (aJ I q (by simp))
  |bl j=>cases a;exact PySem.EqNone.eq_none_bool (aJ I q (by simp))
  |int j=>let{b,rfl}:=a;exact PySem.EqNone.eq_none_int (aJ I q (by simp))
  |str j=>let{b,rfl}:=a;exact PySem.EqNone.eq_none_str (aJ I q (by simp))
  |_=>exact absurd (show false=true from c) Oj
 |bl i=>
  cases d
  cases y with
  |non=>cases a;exact PySem.EqNone.eq_bool_none (aJ I q (by simp))
  |bl j=>cases a;exact eq_bool (aJ I q xY)
  |str j=>let{b,rfl}:=a;exact PySem.EqMixed.eq_bool_str (aJ I q (by simp))
  |_=>exact absurd (show false=true from c) Oj
 |int i=>
  let{t,rfl}:=d
  cases y with
  |non=>cases a;exact PySem.EqNone.eq_int_none (aJ I q (by simp))
  |int j=>let{b,rfl}:=a;exact eq_int (aJ I q uX)
  |str j=>let{b,rfl}:=a;exact PySem.EqMixed.eq_int_str (aJ I q (by simp))
  |_=>exact absurd (show false=true from c) Oj
 |str i=>
  let{t,rfl}:=d
  cases y with
  |non=>cases a;exact PySem.EqNone.eq_str_none (aJ I q (by simp))
  |bl j=>cases a;exact PySem.EqMixed.eq_str_bool (aJ I q (by simp))
  |int j=>let{b,rfl}:=a;exact PySem.EqMixed.eq_str_int (aJ I q (by simp))
  |str j=>let{b,rfl}:=a;exact eq_str (aJ I q uY)
  |_=>exact absurd (show false=true from c) Oj
 |byt i=>
  let{t,rfl}:=d
  cases y with
  |byt j=>let{b,rfl}:=a;exact PySem.W.eq_bytes (aJ I q uZ)
  |_=>exact absurd (show false=true from c) Oj
 |_=>cases y<;>exact absurd (show false=true from c) Oj
theorem vm:ie X (Pj .NotEq) KC:=by
 intro e s σ H x y v u Q I d a h
 let{c,q}:=h
 cases x with
 |non=>
  cases d
  cases y with
  |non=>cases a;exact PySem.EqNone.ne_none_none (aJ I q (by simp))
  |bl j=>cases a;exact PySem.EqNone.ne_none_bool (aJ I q (by simp))
  |int j=>let{b,rfl}:=a;exact PySem.EqNone.ne_none_int (aJ I q (by simp))
  |str j=>let{b,rfl}:=a;exact PySem.EqNone.ne_none_str (aJ I q (by simp))
  |_=>exact absurd (show false=true from c) Oj
 |bl i=>
  cases d
  cases y with
  |non=>cases a;exact PySem.EqNone.ne_bool_none (aJ I q (by simp))
  |bl j=>cases a;exact ne_bool (aJ I q (congrArg not xY))
  |str j=>let{b,rfl}:=a;exact PySem.EqMixed.ne_bool_str (aJ I q (by simp))
  |_=>exact absurd (show false=true from c) Oj
 |int i=>
  let{t,rfl}:=d
  cases y with
  |non=>cases a;exact PySem.EqNone.ne_int_none (aJ I q (by simp))
  |int j=>let{b,rfl}:=a;exact ne_int (aJ I q (congrArg not uX))
  |str j=>let{b,rfl}:=a;exact PySem.EqMixed.ne_int_str (aJ I q (by simp))
  |_=>exact absurd (show false=true from c) Oj
 |str i=>
  let{t,rfl}:=d
  cases y with
  |non=>cases a;exact PySem.EqNone.ne_str_none (aJ I q (by simp))
  |bl j=>cases a;exact PySem.EqMixed.ne_str_bool (aJ I q (by simp))
  |int j=>let{b,rfl}:=a;exact PySem.EqMixed.ne_str_int (aJ I q (by simp))
  |str j=>let{b,rfl}:=a;exact ne_str (aJ I q (congrArg not uY))
  |_=>exact absurd (show false=true from c) Oj
 |byt i=>
  let{t,rfl}:=d
  cases y with
  |byt j=>let{b,rfl}:=a;exact PySem.W.ne_bytes (aJ I q (congrArg not uZ))
  |_=>exact absurd (show false=true from c) Oj
 |_=>cases y<;>exact absurd (show false=true from c) Oj
theorem rK:ie X (Pj .Lt) (xN λi j=>.bl (decide (i<j))):=Av λ_ _ _ _ _ _ _ q=>lt_int q
theorem EW:ie X (Pj .LtE) (xN λi j=>.bl (decide (i<=j))):=Av λ_ _ _ _ _ _ _ q=>le_int q
theorem j7:ie X (Pj .Gt) (xN λi j=>.bl (decide (j<i))):=Av λ_ _ _ _ _ _ _ q=>gt_int q
theorem C9:ie X (Pj .GtE) (xN λi j=>.bl (decide (j<=i))):=Av λ_ _ _ _ _ _ _ q=>ge_int q
theorem eS:ie X (Pj .In) (λx y H Q=>∃i j,x=.str i/\y=.str j/\Q (.bl (!(Q2 j i 0 j.length 1).isEmpty)) H):=by
 intro a s σ H x y v u Q I b c h
 let{i,j,rfl,rfl,q}:=h
 let{t,rfl}:=b
 let{d,rfl}:=c
 exact in_str (aJ I q rfl)
theorem mr:ie X (Pj .Is) (λx y H Q=>y=.non/\Q (.bl (decide (x=.non))) H):=by
 intro a s σ H x y v u Q I b c h
 let{rfl,q}:=h
 cases c;refine is_none_gen (aJ I q ?_)
 cases x<;>first
  |(cases b;rfl)
  |(let{t,rfl}:=b;rfl)
theorem vn:ie X (Pj .IsNot) (λx y H Q=>y=.non/\Q (.bl (!decide (x=.non))) H):=by
 intro a s σ H x y v u Q I b c h
 let{rfl,q}:=h
 cases c;refine isnot_none_gen (aJ I q ?_)
 cases x<;>first
  |(cases b;rfl)
  |(let{t,rfl}:=b;rfl)
structure yo(K:O4)(C:Addr)(m:Str)(f:Addr):Prop where
 at_:OH K (.ref C) m=ρ (ρ (.ref f))
 fn:Rh K (.ref f)=true
 kp:QL K (.ref f)=true
def Hy(K:O4)(ta tv:TE)(f:Str):TS:=λD σ H=>tv σ H λy H1=>ta σ H1 λx H2=>∃a C dx fs,x=.ref a/\H2 a=ρ (.ins C dx fs)/\pR K C/\aP K C f/\fs.9<1000 /\
 D.nx σ (upd H2 a (.ins C dx (cB f y fs)))
structure u0(P:Om)(w:World)(K:O4)(mg:Str->Option Value)(base:Heap)(A:Around)(outer:List Env)(s:Shared)(H:Hp):Prop where
 frames:A.frames=ρ outer
 mod:Mod K mg base
 bs:∀b o,base.get? b=ρ o->s.heap.get? b=ρ o/\H b=τ
 uV:base.7<=s.8
 iC:s.heap.FunFrames base outer
 A8:∀b∈lM outer,H b=τ
 aI:fw P w H s.heap
 bare:AllBare s.gens
structure aH(P:Om)(w:World)(K:O4)(mg:Str->Option Value)(base:Heap)(CX:we)(k:Nat)(f:Addr)(fd:P0)(ps:List Str)(sp:Sp):Prop where
 len:∀vs H Q E,sp vs H Q E->vs.9=ps.9
 run:∀(A:Around) (outer:List Env) (s:Shared) (H:Hp) (args:Args) (us:List Value) (vs:List V) (Q:VK) (E:XK),bA k A->u0 P w K mg base A outer s H->BindsTo s fd args (ps.zip us)->Vals vs us->sp vs H Q E ->
  codeAny (model P w) A (.call (.ref f) args) (CR CX outer P w H s Q E) s
theorem u0.make{P:Om}{w:World}{K:O4}{mg:Str->Option Value}{base:Heap}{A:Around}{outer:List Env}{s:Shared}{H:Hp}(e:u0 P w K mg base A outer s H)(C:Addr)(us:List Value)(g:List (Str×Value)) :
 u0 P w K mg base (A.under (.builtin "type.__call__" {.ref C::us,g})) outer s H:={by first |exact e.frames |(simpa [V1,Code.envs,V2,pushEnvs] using e.frames),e.mod,e.bs,e.uV,e.iC,e.A8,e.aI,e.bare}
noncomputable def mw(CX:we)(P:Om)(w:World)(K:O4)(mg:Str->Option Value)(base:Heap)(N:List Str)(qual:Str)(scope:Qr)(f:Addr)(cd:Value)(A:Around)(outer:List Env)(s:Shared)(H:Hp)(E:XK):Cx where
 prog:=P
 w:=w
 K:=K
 mg:=mg
 base:=base
 A:=A.deeper (envOfC qual scope s.heap.objs.size f cd)
 N:=N
 s₀:=s
 H₀:=H
 env:=envOfC qual scope s.heap.objs.size f cd
 outer:=outer
 stack:=envOfC qual scope s.heap.objs.size f cd::outer
 ex:=[]
 calm:=true
 fn:=λ_=>true
 pn:=[]
 xe:=λe s'=>wpAny (model P w) (A.deeper (envOfC qual scope s.heap.objs.size f cd)) («leaving» (envOfC qual scope s.heap.objs.size f cd) e) (λ_ HA=>CX outer H s E e HA) (λe' HA=>CX outer H s E e' HA) s'
theorem pY:ie X (Pj .NotIn) (λx y H Q=>∃i j,x=.str i/\y=.str j/\Q (.bl (!(!(Q2 j i 0 j.length 1).isEmpty))) H):=by
 intro a s σ H x y v u Q I b c h
 let{i,j,rfl,rfl,q}:=h
 let{t,rfl}:=b
 let{d,rfl}:=c
 exact notIn_str {.bl _,H,I,rfl,q}
def Ca(td ty tv:TE):TS:=λD σ H=>tv σ H λv H1=>td σ H1 λx H2=>ty σ H2 λy H3=>∃a H4,x=.ref a/\nV H3 a y v H4/\D.nx σ H4
theorem pZ{J:It}{Ok:Hp->Prop}{xs:List V}{g:TG}{C:TS}{D:Ends}{σ:St}{H:Hp}(r:pV J Ok xs)(Pv:Nat->St->Hp->Prop)(T:Pv 0 σ H)(U:∀i σ H,i<=xs.9->Pv i σ H->Ok H)
 (hs:∀i x σ H,xs[i]?=ρ x->Pv i σ H->g x σ H λl t=>C (D.lp (Pv (i+1))) l t) (hd:∀σ H,Pv xs.length σ H->D.nx σ H) :
 ∃W:Nat->Nat->St->Hp->Prop,(∃m,W 0 m σ H)/\∀i m σ H,W i m σ H ->
  (J.stop i H/\D.nx σ H)\/(J.go i H/\∃N:St->Hp->Prop,(∀o j,N o j->∃I,I<m/\W (i+1) I o j)/\∀x j,J.tJ i H x j->g x σ j λl t=>C (D.lp N) l t):=by
 refine{λi m σ H=>m=xs.9-i/\i<=xs.9/\Pv i σ H,{xs.9,by simp,OZ _,T},?_};rintro i m σ H ⟨rfl,hi,p⟩;have q:=U i σ H hi p
 by_cases a:i<xs.9
 .refine .inr {r.go i H q a,Pv (i+1),λo j b=>{xs.9-(i+1),(),rfl,a,b},λx j y=>?_}
  let{e,c}:=r.tJ i H x j q a y
  subst e;exact hs i x σ _ c p
 .have e:i=xs.9:=();subst e;exact .inl {r.stop H q,hd σ H p}
def D0(wi:TI)(ix:List Nat)(tt:TT)(te:TE)(i:Nat):TS:=λD σ H=>wi σ H λJ H1=>∀l,H1 l=τ->j2 J l (pick σ ix) tt te H1 (λH2=>D.nx (σ.set i (ρ (.ref l))) H2)
theorem rL{K:O4}{a:Addr}{xs:List V}{g:TG}{t:TS}{D:Ends}{σ:St}{H:Hp}(Pv:Nat->St->Hp->Prop)(I:Pv 0 σ H)(hl:∀i σ H,i<=xs.9->Pv i σ H->aK K H a xs)
 (J:∀i x σ H T,xs[i]?=ρ x->Pv i σ H->H T=τ->g (.ref T) σ (upd H T (.tup [.int (i:Nat),x])) λj r=>t (D.lp (Pv (i+1))) j r) (hd:∀σ H,Pv xs.length σ H->D.nx σ H) :
 ∃W:Nat->Nat->St->Hp->Prop,(∃m,W 0 m σ H)/\∀i m σ H,W i m σ H ->
  ((EC K a).stop i H/\D.nx σ H)\/((EC K a).go i H/\∃N:St->Hp->Prop,(∀l o,N l o->∃C,C<m/\W (i+1) C l o)/\∀x o,(EC K a).tJ i H x o->g x σ o λj r=>t (D.lp N) j r):=by
 refine{λi m σ H=>m=xs.9-i/\i<=xs.9/\Pv i σ H,{xs.9,by simp,OZ _,I},?_};rintro i m σ H ⟨rfl,hi,p⟩;have q:=hl i σ H hi p
 by_cases b:i<xs.9
 .refine .inr {{xs,xs[i],q,by simp[b]},Pv (i+1),λl o c=>{xs.9-(i+1),1.0,rfl,b,c},λx o y=>?_}
  let{T,d,f,h,k,y}:=y
  subst h k;exact J i d σ _ T (y xs q) p f
 .have e:i=xs.9:=1.0;subst e;exact .inl {{xs,q,Ob _},hd σ H p}
inductive D1(a b c:Nat)(z0:Str)(ti:TE)(D:Ends)(σ:St)(H:Hp):Prop
 |mk (q0 found) (_:σ[a]?=ρ (ρ (.str q0))) (_:σ[c]?=ρ (ρ (.str found))) (_:ti σ H λy H1=>∃i ch,y=.int i/\q0.9<=100/\found.9<=100/\iY q0.cps.toList i=ρ ch/\D.nx (((σ.set b (ρ (.str ⟨#[ch]⟩))).set c (ρ (.str (found++⟨#[ch]⟩)))).set a (ρ (.str (SG q0 ⟨#[ch]⟩ z0)))) H1)
def Aw(C:Addr)(E:XK)(t:TA):TS:=λ_ σ H=>t σ H λvs H1=>vs.9=1/\E (.ref C) τ H1
end
section
variable{te:TE}
def SP(X:Cx)(pins:List (Addr×Obj))(D:Ends)(f:Flow)(s':Shared):Prop:=
 match f with
 |.next=>∃σ' H',Inv X pins σ' H' s'/\D.nx σ' H'
 |.brk=>∃σ' H',Inv X pins σ' H' s'/\D.bk σ' H'
 |.cont=>∃σ' H',Inv X pins σ' H' s'/\D.ct σ' H'
 |.ret u=>∃v σ' H',Inv X pins σ' H' s'/\RelV v u/\D.rt v H'
abbrev PS(X:Cx)(st:Stmt)(t:TS):Prop:=Bx (∀(pins:List (Addr×Obj)) (s:Shared) (σ:St) (H:Hp) (D:Ends),Inv X pins σ H s->t D σ H->wpAny (model X.prog X.w) X.A (exec st X.5) (SP X pins D) X.xe s)
abbrev q8(X:Cx)(st:List Stmt)(t:TS):Prop:=Bx (∀(pins:List (Addr×Obj)) (s:Shared) (σ:St) (H:Hp) (D:Ends),Inv X pins σ H s->t D σ H->wpAny (model X.prog X.w) X.A (execs st X.5) (SP X pins D) X.xe s)
theorem Cx.Ok.iD{X:Cx}(ok:X.Ok)(E:Value->Shared->Prop):(X.iD E).Ok:=
 ⟨ok.mod,ok.kind,ok.glob,ok.blt,ok.above,ok.inj,ok.has,ok.BV,ok.hd,ok.frames,ok.CA,ok.Ef,ok.bs,ok.uV,ok.pQ,ok.tI,ok.iC,ok.A8⟩
theorem Cx.Ok.cV{X:Cx}{E:Value->Shared->Prop}(ok:(X.iD E).Ok):X.Ok:=
 ⟨ok.mod,ok.kind,ok.glob,ok.blt,ok.above,ok.inj,ok.has,ok.BV,ok.hd,ok.frames,ok.CA,ok.Ef,ok.bs,ok.uV,ok.pQ,ok.tI,ok.iC,ok.A8⟩
def yp(te:TE):TS:=λD σ H=>te σ H λ_ H1=>D.nx σ H1
def D2(te:TE):TS:=λD σ H=>te σ H D.rt
def cP(X:Cx)(f:Value)(r:List V->Hp->VK->Prop):Prop:=
 ∀(pins:List (Addr×Obj)) (s:Shared) (σ:St) (H:Hp) (xs:List V) (us:List Value) (Q:VK),Inv X pins σ H s->Vals xs us->r xs H Q ->
  wpAny (model X.prog X.w) X.A (call f us) (EP X pins σ Q) X.xe s
def Passes(CX:we)(X:Cx)(E:XK):Prop:=∀(pins:List (Addr×Obj)) (σ:St) (H:Hp) (s:Shared) (e:Value) (s':Shared),Inv X pins σ H s->CX X.stack H s E e s'->X.xe e s'
def D3(X:Cx)(id:String)(r:V->List V->Hp->VK->Prop):Prop:=
 ∀(pins:List (Addr×Obj)) (s:Shared) (σ:St) (H:Hp) (x:V) (xs:List V) (v:Value) (us:List Value) (Q:VK),Inv X pins σ H s->RelV x v->Vals xs us->r x xs H Q ->
  wpAny (model X.prog X.w) X.A (call (.builtin id) (v::us)) (EP X pins σ Q) X.xe s
def Jo(X:Cx)(id:String)(r:V->List V->Hp->VK->Prop):Prop:=
 ∀(pins:List (Addr×Obj)) (s:Shared) (σ:St) (H:Hp) (x:V) (xs:List V) (v:Value) (us:List Value) (Q:VK),Inv X pins σ H s->RelV x v->Vals xs us->r x xs H Q ->
  wpAny (model X.prog X.w) X.A (call (.builtin id) (v::us)) (EP X pins σ Q) X.xe s
theorem rM{X:Cx}:Passes dk X E0:=λ_ _ _ _ _ _ _ h=>h.elim
noncomputable def aX(X:Cx)(scope:Qr)(N:List Str)(cl:List (Str×Addr))(L:Addr)(s:Shared)(H:Hp)(ex:List Addr)(pn:List (Addr×Obj)):Cx where
 prog:=X.prog
 w:=X.w
 K:=X.K
 mg:=X.mg
 base:=X.base
 A:=X.A
 N:=N
 s₀:=s
 H₀:=H
 env:=compEnvC scope cl L X.5
 outer:=X.stack
 stack:=X.stack
 ex:=ex
 fn:=λ_=>false
 calm:=X.calm
 pn:=pn
 xe:=λ_ _=>False
abbrev Gh(X:Cx)(st:Stmt)(t:TS):Prop:=Bx (∀(pins:List (Addr×Obj)) (s:Shared) (σ:St) (H:Hp) (D:Ends),Inv X pins σ H s->1<=s.toks->t D σ H->wpAny (model X.prog X.w) X.A (exec st X.5) (SP X pins D) X.xe s)
abbrev wo(X:Cx)(st:List Stmt)(t:TS):Prop:=Bx (∀(pins:List (Addr×Obj)) (s:Shared) (σ:St) (H:Hp) (D:Ends),Inv X pins σ H s->1<=s.toks->t D σ H->wpAny (model X.prog X.w) X.A (execs st X.5) (SP X pins D) X.xe s)
def HB(X:Cx)(pins:List (Addr×Obj))(σ:St)(E:XK)(ev:Value)(s':Shared):Prop:=∃H0 s0,Inv X pins σ H0 s0/\oY X.prog X.w X.stack H0 s0 E ev s'
def Jp(X:Cx)(pins:List (Addr×Obj))(E:St->XK)(ev:Value)(s':Shared):Prop:=∃σ,HB X pins σ (E σ) ev s'
abbrev Jq(X:Cx)(e:Expr)(t:Eu):Prop:=Bx (∀(pins:List (Addr×Obj)) (s:Shared) (σ:St) (H:Hp) (Q:VK) (E:XK),Inv X pins σ H s->t E σ H Q->wpAny (model X.prog X.w) X.A (eval e X.5) (EP X pins σ Q) (HB X pins σ E) s)
abbrev Jr(X:Cx)(st:Stmt)(t:DZ):Prop:=Bx (∀(pins:List (Addr×Obj)) (s:Shared) (σ:St) (H:Hp) (D:Ends) (E:St->XK),Inv X pins σ H s->t E D σ H->wpAny (model X.prog X.w) X.A (exec st X.5) (SP X pins D) (Jp X pins E) s)
abbrev EX(X:Cx)(st:List Stmt)(t:DZ):Prop:=Bx (∀(pins:List (Addr×Obj)) (s:Shared) (σ:St) (H:Hp) (D:Ends) (E:St->XK),Inv X pins σ H s->t E D σ H->wpAny (model X.prog X.w) X.A (execs st X.5) (SP X pins D) (Jp X pins E) s)
end
section
variable{X:Cx}{a b:Expr}{ta tb:TE}{pos:Pos}{tA:TT}
abbrev PC(X:Cx)(op:CmpOp)(a b:Expr)(t:TE):Prop:=Bx (∀(pins:List (Addr×Obj)) (s:Shared) (σ:St) (H:Hp) (Q:VK),Inv X pins σ H s->t σ H Q ->
  wpAny (model X.prog X.w) X.A (eval a X.5) (λv s₁=>wpAny (model X.prog X.w) X.A (eval b X.5) (λu s₂=>wpAny (model X.prog X.w) X.A (Pj op v u) (EP X pins σ Q) X.xe s₂) X.xe s₁) X.xe s)
theorem D4{op:CmpOp}{t:TE}(h:PC X op a b t)(g:QV op b=false:=by first |exact y6 _ ⋯ ⋯ |rfl):PT X (.Compare a [op] [b] pos) (tB t):=by
 refine{?_};intro e s σ H Q I hw;refine Ud (bb (h e s σ H _ I hw) λv m g=>bb g λu n f=>bb f λc o ⟨x,i,j,k,l⟩=>?_) g
 let{d,rfl,q}:=l
 cases k;exact Ql ⟨i,j,q⟩
theorem aN{e:Expr}{t:TE}(h:PE X e t)(he:∀whole,isTrue e X.env whole=(do let v <-whole;standAt e.pos;holding [v] (truthy v)):=by intro _;rfl):PT X e (tB t):=by
 refine{?_};intro a s σ H Q I hw;refine isTrue_plain (bb (h a s σ H _ I hw) λv i ⟨x,b,c,f,g⟩=>?_) (he _)
 let{d,rfl,q}:=g
 cases f;exact Ql ⟨b,c,q⟩
theorem lP(ha:PT X a tA):PW X (.BoolOp .And [a] pos) tA:=by
 refine{?_};intro d b s σ H Q I h;refine isTrue_and (bb (ha b s σ H Q I h) λc f e=>?_)
 cases c with
 |true=>exact isTrue_and_nil e
 |false=>exact e
theorem cE(ha:PT X a tA):PW X (.BoolOp .Or [a] pos) tA:=by
 refine{?_};intro d b s σ H Q I h;refine isTrue_or (bb (ha b s σ H Q I h) λc f e=>?_)
 cases c with
 |false=>exact isTrue_or_nil e
 |true=>exact e
theorem aY(ha:PT X a tA):PT X (.UnaryOp .Not a pos) (GL tA):=by
 refine{?_};intro b s σ H Q I h;exact isTrue_not (ha b s σ H (λc d=>Q (!c) d) I h)
theorem k7{op}(h:PE X a t):PE X (.BoolOp op [a] pos) t:={λb s σ H Q I hw=>BoolOp_one (h b s σ H Q I hw)}
theorem D5(ha:PE X a ta):PE X (.UnaryOp .Not a pos) (Ey ta):=by
 refine{?_};intro b s σ H Q I h;refine UnaryOp_ (bb (ha b s σ H _ I h) λv i ⟨x,e,f,g,d⟩=>?_)
 let{c,rfl,d}:=d
 cases g;exact not_of (Ql {.bl (!c),e,f,rfl,d})
theorem rN{c:Expr}(hc:PT X c tA)(ha:PE X a ta)(l:PE X b tb):PE X (.IfExp c a b pos) (KJ tA ta tb):=by
 refine{?_};intro e s σ H Q I h;refine wpAny_IfExp (bb (hc e s σ H _ I h) λd f ⟨g,i,j⟩=>?_)
 cases d with
 |true=>exact ha e f σ g Q i j
 |false=>exact l e f σ g Q i j
theorem aq:q8 X [] C8:={λ_ _ σ H _ I h=>PQ ⟨σ,H,I,h⟩}
theorem yq:PS X (.Break pos) CV:={λ_ _ σ H _ I h=>wpAny_Break ⟨σ,H,I,h⟩}
theorem cq:q8 X g CU:={λ_ _ _ _ _ _ h=>h.elim}
theorem fx{j e:Expr}{l:TE}{g:TG}(he:PE X e l)(o:PG X j g)(p:swapsWithSole [j] e pos.line X.5=pure false:=by rfl)(hw:swappedStores [j] e X.5=pure τ:=by rfl)
 (r:(Rk [j] X.5).map (·.2)=[assign j X.5]:=by rfl):PS X (.Assign [j] e pos) (wm l g):=by
 refine{?_};intro a s σ H D I h;refine wpAny_Assign_stores (bb (he a s σ H _ I h) λv b ⟨x,c,d,f,i⟩=>?_) p hw;rw[r];exact bb (o a b σ c x v _ d f i) λ_ k q=>q
theorem rO{c:Expr}{body:List Stmt}{t:TT}{C:TS}(J:V7 (model X.prog X.w) X.A X.env X.xe)(hc:PT X c t)(T:q8 X body C):PS X (.While c body [] pos) (CY t C):=by
 refine{?_};intro a s σ H D I h
 let{W,{E,G},g}:=h
 refine wpAny_While (codeAny_whileLoop (λn L=>∃i u,Inv X a i u L/\W n i u) ?_ E ⟨σ,H,I,G⟩);rintro n M ⟨e,x,O,w1⟩;refine Pk J (bb (hc a M e x _ O (g n e x w1)) λb Q ⟨y,z,k⟩=>?_)
 cases b with
 |true=>
  let{N,B,k}:=k
  rw[if_pos rfl];refine Pk J (bb (T a Q e y _ z k) λf R l=>?_)
  cases f with
  |next=>
   let{d,j,m,o}:=l
   let{p,q,r}:=B d j o
   exact⟨p,q,d,j,m,r⟩
  |cont=>
   let{d,j,m,o}:=l
   let{p,q,r}:=B d j o
   exact⟨p,q,d,j,m,r⟩
  |brk=>exact l
  |ret v=>exact l
 |false=>
  rw[if_neg Oj];exact PQ ⟨e,y,z,k⟩
theorem D6(ha:PE X a ta)(t:PE X b tb){R:V->V->Hp->Prop}(I:Inv X g σ H s)
 (h:ta σ H λx r=>tb σ r λy j=>R x y j) {Q:Value->Shared->Prop} {f:Value->Value->Sem Value}
 (C:∀v u p x y j,Inv X g σ j p->RelV x v->RelV y u->R x y j->wpAny (model X.prog X.w) X.A (f v u) Q X.xe p) :
 wpAny (model X.prog X.w) X.A (eval a X.5) (λv l=>wpAny (model X.prog X.w) X.A (eval b X.5) (λu o=>wpAny (model X.prog X.w) X.A (f v u) Q X.xe o) X.xe l) X.xe s:=by
 refine bb (ha g s σ H _ I h) λv c ⟨x,r,d,e,i⟩=>?_;refine bb (t g c σ r _ d i) λu p ⟨y,j,k,m,n⟩=>?_;exact C v u p x y j k e m n
theorem ay(g:ie X (binaryOp op) r)(ha:PE X a ta)(j:PE X b tb):PE X (.BinOp a op b pos) (oF r ta tb):=by
 refine{?_};intro c s σ H Q I h;exact wpAny_BinOp (D6 ha j I h λv u d x y e f i k q=>g c d σ e x y v u Q f i k q)
theorem Cb{r:V->Hp->VK->Prop}(g:Hu X (unaryOp op) r)(ha:PE X a ta):PE X (.UnaryOp op a pos) (KB r ta):=by
 refine{?_};intro b s σ H Q I h;exact UnaryOp_ (bb (ha b s σ H _ I h) λv c ⟨x,d,e,f,i⟩=>g b c σ d x v Q e f i)
theorem bO(g:ie X (Pj op) r)(ha:PE X a ta)(j:PE X b tb)(l:QV op b=false):PE X (.Compare a [op] [b] pos) (oF r ta tb):=by
 refine{?_};intro c s σ H Q I h;exact wpAny_Compare1 (D6 ha j I h λv u d x y e f i k q=>g c d σ e x y v u Q f i k q) l
theorem hO(g:ie X (Pj op) r)(ha:PE X a ta)(j:PE X b tb)(l:QV op b=false):PT X (.Compare a [op] [b] pos) (va (oF r ta tb)):=by
 refine{?_};intro d s σ H Q I h
 refine Ud (bb (ha d s σ H _ I h) λv f ⟨x,i,m,n,o⟩=>bb (j d f σ i _ m o) λu p ⟨y,q,t,w,A⟩=>
  bb (g d p σ q x y v u _ t n w A) λc G ⟨z,B,C,D,k,e,E⟩=>?_) l
 subst e;cases D;exact Ql ⟨B,C,E⟩
theorem aF(g:DY X r)(ha:PE X a ta)(j:PE X b tb)(l:vc b):PE X (.Subscript a b pos) (oF r ta tb):=by
 refine{?_};intro c s σ H Q I h;exact Uu (D6 ha j I h λv u d x y e f i k q=>g a b c d σ e x y v u Q f i k q (l _ _))
end
section
variable{P:Om}{w:World}{H H':Hp}{h h':Heap}{a:Addr}{o:HO}
theorem b6.lt(x:b6 P w H h a o):a<h.7:=by
 cases o with
 |lst c=>let{_,_,_,_,e}:=x;exact Oa e
 |tup c=>let{_,_,_,p}:=x;exact p.lt
 |dK b=>let{_,_,_,_,o,_,_,e,_}:=x;exact Oa e
 |dT b=>let{_,_,_,_,o,_,_,e,_}:=x;exact Oa e
 |set S n=>let{o,_,_,_,e,_}:=x;exact Oa e
 |ins C d fs=>let{_,_,_,e,_}:=x;exact Oa e
 |own y=>let{_,e}:=x;exact Oa e
 |xd fs=>let{_,{_,_,_,e,_},_}:=x;exact Oa e
 |rng lo hi=>let{_,_,_,e}:=x;exact Oa e
 |frz ob u=>let{e,_}:=x;exact Oa e
 |tbl ps=>exact Oa (show h.get? a=ρ _ from x)
 |met f y=>exact Oa (show h.get? a=ρ _ from x)
 |ext φ=>let{_,{_,e},_}:=x;exact Oa e
theorem b6.iJ(x:b6 P w H h a o)(k:∀b u,(b=a\/H b=ρ (.own a))->h.get? b=ρ u->h'.get? b=ρ u)
 (I:∀b,H b=ρ (.own a)->H' b=ρ (.own a)) (J:∀b xs,H b=ρ (.tup xs)->H' b=ρ (.tup xs)):b6 P w H' h' a o:=by
 induction o with
 |lst xs=>let{z,j,n,r,e}:=x;exact{z,j,n,r,k _ _ (.inl rfl) e}
 |tup xs=>let{z,j,r,ob,e,c}:=x;exact{z,j,r,ob,k _ _ (.inl rfl) e,c}
 |dK l=>let{z,y,A,r,ob,g,i,e,c}:=x;exact{z,y,A,r,ob,g,i,k _ _ (.inl rfl) e,c}
 |dT l=>
  let{z,y,xs,r,ob,g,i,e,c}:=x
  exact{z,y,xs,Paired.CQ r λp q z=>{z.1,J _ _ z.2.1,z.2.2},ob,g,i,k _ _ (.inl rfl) e,c}
 |set S n=>let{ob,g,i,t,e,c}:=x;exact{ob,g,i,t,k _ _ (.inl rfl) e,c}
 |ins C E fs=>
  let{d,z,ne,e,m,{s,g,i,B,c},r}:=x
  exact{I _ d,z,ne,k _ _ (.inl rfl) e,m,{s,g,i,k _ _ (.inr d) B,c},r}
 |own y=>let{ob,e}:=x;exact{ob,k _ _ (.inl rfl) e}
 |xd fs=>let{m,{s,g,i,e,c},r}:=x;exact{m,{s,g,i,k _ _ (.inl rfl) e,c},r}
 |rng lo hi=>let{t,u,v,e}:=x;exact{t,u,v,k _ _ (.inl rfl) e}
 |frz ob u D=>let{e,q}:=x;exact{k _ _ (.inl rfl) e,D q}
 |tbl ps=>
  have e:h.get? a=ρ {cls:=.none,data:=.fields ps}:=x;show h'.get? a=ρ {cls:=.none,data:=.fields ps};exact k a _ (.inl rfl) e
 |met f y=>
  have e:h.get? a=ρ (T4 (.ref f) (.ref y)):=x;show h'.get? a=ρ (T4 (.ref f) (.ref y));exact k a _ (.inl rfl) e
 |ext φ=>let{p,{o,e},st}:=x;exact⟨st _ _ p λo q=>k _ _ (.inl rfl) q,⟨o,k _ _ (.inl rfl) e⟩,st⟩
theorem fw.lt(x:fw P w H h)(e:H a=ρ o):a<h.7:=(x a o e).lt
theorem fw.fresh(x:fw P w H h)(e:h.7<=a):H a=τ:=by
 cases q:H a with
 |none=>rfl
 |some u=>exact absurd (O7 (x.lt q) e) (OX _)
theorem fw.kept(x:fw P w H h)(k:∀b u,h.get? b=ρ u->h'.get? b=ρ u):fw P w H h':=λa o e=>
 (x a o e).iJ (λb u _ q=>k b u q) (λ_ q=>q) λ_ _ q=>q
theorem fw.laid(x:fw P w H h)(k:∀b u,h.get? b=ρ u->h'.get? b=ρ u)(g:h.7<=a)(new:b6 P w (upd H a o) h' a o):fw P w (upd H a o) h':=λb u e=>by
 have hn:=x.fresh g
 by_cases d:b=a
 .grind [a5]
 .rw[a8 d]at e;exact(x b u e).iJ (λc v _ q=>k c v q) (λc q=>by rw[a8 (ae q hn)];exact q) λc f q=>by rw[a8 (ae q hn)];exact q
theorem Cd(ok:fw P w H h)(e:Rd H a u):b6 P w H h a u:=e.ok ok
theorem p0(ok:fw P w H h)(e:Rd H a (.dK kvs)):kvs.9<=sizeLine/\(a==Q8)=false/\∃vs,KV kvs vs/\h.DictOf (aR P w) a vs:=
 show b6 P w H h a (.dK kvs) from Cd ok e
theorem pa(ok:fw P w H h)(e:H a=ρ (.dK kvs)):kvs.9<=sizeLine/\(a==Q8)=false/\∃vs,KV kvs vs/\h.DictOf (aR P w) a vs:=p0 ok (.inl e)
theorem q9(ok:fw P w H h)(e:H a=ρ (.tup (g.map kV))):(TV (aR P w)).is h g a:=by
 let{_,b,r,o,c,d,n,f}:=(show b6 P w H h a (.tup (g.map kV)) from ok a _ e)
 exact{o,b.6,n,c,d,f,by simpa using oM r}
theorem vo(ok:fw P w H h)(e:Rd H a (.dT kvs)):kvs.9<=sizeLine/\(a==Q8)=false /\
 ∃xs,KT H kvs xs/\h.DictOfH (TV (aR P w)) a xs:=by
 let{z,y,xs,r,o,b,c,d,f,g,i,j}:=(show b6 P w H h a (.dT kvs) from Cd ok e)
 refine{z,y,xs,r,o,b,c,d,f,g,i,λx hx=>?_,j}
 have all:∀{l:List (List Key×V)} {m:List (List Key×Addr×Value)},KT H l m->∀x∈m,(TV (aR P w)).is h x.1 x.2.1:=by
  intro l m q
  induction q with
  |nil=>grind
  |@cons p q ps k n t s=>
   grind [q9]
 exact all r x hx
theorem EY(ok:fw P w H h)(e:H a=ρ (.dT kvs)):kvs.9<=sizeLine/\(a==Q8)=false /\
 ∃xs,KT H kvs xs/\h.DictOfH (TV (aR P w)) a xs:=vo ok (.inl e)
end
section
variable{X:Cx}{pins:List (Addr×Obj)}{σ:St}{H:Hp}{s:Shared}{a:Addr}{xs ys:List V}
theorem aK.of{K:O4}(h:H a=ρ (.lst xs)):aK K H a xs:=.inl (.inl h)
theorem eI.of{K:O4}(h:H a=ρ (.tup xs)):eI K H a xs:=.inl (.inl h)
theorem Inv.list(I:Inv X pins σ H s)(h:aK X.K H a xs):∃g:List Value,Vals xs g/\PlainL s.heap a g.6/\xs.9<=sizeLine:=by
 rcases h with h |⟨o,g,n,hk,hc,hd,b,c,r⟩
 .let{z,g,n,r,e}:=h.ok I.aI
  exact{g,r,{_,n,e,rfl,rfl,rfl},z}
 .refine{g.toList,r,{o,n,I.dC a o hk,hc,hd,by simpa using b},?_};have e:=r.9;simp only[QQ]at e
  lia
theorem Inv.tuple(I:Inv X pins σ H s)(h:eI X.K H a xs):∃g:List Value,Vals xs g/\IsTup s.heap a g.6/\xs.9<=sizeLine:=by
 rcases h with h |⟨o,g,n,hk,hc,b,c,r⟩
 .let{z,g,r,p}:=h.ok I.aI
  exact⟨g,r,p,z⟩
 .refine{g.toList,r,{o,I.dC a o hk,hc,n,by simpa using b},?_};have e:=r.9;simp only[QQ]at e;omega
theorem Inv.rP(I:Inv X pins σ H s)(h:aK X.K H a xs)(h':aK X.K H a ys):xs=ys:=by
 let{c,r,{o,n,e,_,_,d},_}:=I.list h
 let{b,i,{j,k,f,_,_,g},_}:=I.list h'
 rw[e]at f;cases f;rw[d]at g;injection g with l _
 have:c=b:=by grind
 subst this;exact r.inj i
theorem aM:DY X (CF X.K):=by
 intro value slice a s σ H x y v u Q I l m h f
 let{p,E,i,z,rfl,rfl,n,o,q}:=h
 cases l
 let{t,rfl}:=m
 let{c,r,pl,G}:=I.list n
 let{j,b,A,J,B,C}:=lO o
 let{w,g,d}:=r.get A
 have hl:=r.9;have hn:=jW;have fin:EP X a σ Q w s:=⟨z,H,I,d,q⟩
 by_cases k:0<=i
 .have e:i.toNat=j:=by
   rw[seqIndex_of k C]at b;exact Oc b
  exact item_listR pl.isList k () (by rw[e];simpa using g) fin f
 .have e:(i+(c.toArray.size:Int)).toNat=j:=by
   rw[seqIndex_neg () B]at b;rw[OO,<-hl];exact Oc b
  exact U4 (x:=w) pl.isList.typeIs slot_list_getitem.lookup
   (wpAny_getItem_list_neg (Q:=λr D=>r=w/\EP X a σ Q r D) pl.isList () (by rw[OO]<;>lia) () (by rw[e];simpa using g) ⟨rfl,fin⟩) f
theorem cF:DY X (Eo X.K):=by
 intro value slice a s σ H x y v u Q I c d h e
 let{p,A,i,z,rfl,rfl,f,g,q}:=h
 cases c
 let{t,rfl}:=d
 let{k,r,pl,B}:=I.tuple f
 let{j,l,m,C,D,E}:=lO g
 let{w,n,b}:=r.get m
 have hl:=r.9;have hn:=jW;have fin:EP X a σ Q w s:=⟨z,H,I,b,q⟩
 exact U4 (x:=w) pl.typeIs slot_tuple_getitem.lookup
  (getItem_tuple (j:=j) (Q:=λr o=>r=w/\EP X a σ Q r o) pl () () (by rw[OO,<-hl];exact l) (by simpa using n) ⟨rfl,fin⟩) e
theorem hP:ie X (Pj .In) (Ht X.K false):=by
 intro c s σ H x y v u Q I d f h
 let{p,i,rfl,b,e,fs,q}:=h
 cases f;rcases b with b |b
 .let{a,r,pl,g}:=I.list b
  refine SeqAt.in_listAt (tS x) pl.isList (λw hw=>gj d e r fs w (by grind)) {.bl _,H,I,rfl,?_};rw[show a.toArray.any (tS x)=a.any (tS x) by simp,j3 r fs];exact q
 .let{a,r,pl,g}:=I.tuple b
  refine SeqAt.in_tupleAt (tS x) pl (λw hw=>gj d e r fs w (by grind)) {.bl _,H,I,rfl,?_};rw[show a.toArray.any (tS x)=a.any (tS x) by simp,j3 r fs];exact q
theorem qc:ie X (Pj .NotIn) (Ht X.K true):=by
 intro c s σ H x y v u Q I d f h
 let{p,i,rfl,b,e,fs,q}:=h
 cases f;rcases b with b |b
 .let{a,r,pl,g}:=I.list b
  refine SeqAt.notIn_listAt (tS x) pl.isList (λw hw=>gj d e r fs w (by grind)) {.bl _,H,I,rfl,?_};rw[show a.toArray.any (tS x)=a.any (tS x) by simp,j3 r fs];exact q
 .let{a,r,pl,g}:=I.tuple b
  refine SeqAt.notIn_tupleAt (tS x) pl (λw hw=>gj d e r fs w (by grind)) {.bl _,H,I,rfl,?_};rw[show a.toArray.any (tS x)=a.any (tS x) by simp,j3 r fs];exact q
theorem Inv.fresh(I:Inv X pins σ H s):H s.8=τ:=I.aI.fresh (Ob _)
theorem yr(z:kvs.9<=sizeLine)(hd:(a==Q8)=false)(rel:KV kvs vs)(dd:h'.DictOf (aR P w) a vs) :
 b6 P w g h' a (.dK kvs):=⟨z,hd,vs,rel,dd⟩
theorem D7(l:X.A.units<Rq):ie X (Pj .Eq) (GY X.K):=by
 intro m s σ H x y v u Q I B C h
 let{a,b,f,g,rfl,rfl,ha,D,E,G,q}:=h
 cases B;cases C
 let{d,n,o,_}:=I.list ha
 let{c,p,r,_}:=I.list D
 have J:=n.9;have R:=p.9
 by_cases hl:f.9=g.9
 .refine VP (e:=λj=>wh (f.getD j .non) (g.getD j .non)) o.isList r.isList (by simp only[OO];lia) l (λj L M=>?_) ?_
  .have i:j<d.9:=by simpa using L
   have k:j<c.9:=by simpa using M
   have hx:f[j]?=ρ (f.getD j .non):=by rw[Q9];simp[show j<f.length by lia]
   have t:g[j]?=ρ (g.getD j .non):=by rw[Q9];simp[show j<g.length by lia]
   let{N,w,w1}:=n.get hx
   let{O,z,w2}:=p.get t
   have g1:d.toArray[j]=N:=by
    have:d[j]?=ρ d[j]:=by simp[i]
    rw[this]at w;simpa using Oc w
   have g2:c.toArray[j]=O:=by
    have:c[j]?=ρ c[j]:=by simp[k]
    rw[this]at z;simpa using Oc z
   rw[g1,g2];exact y7 w1 w2 (OD.mp E _ (Ox hx)) (OD.mp G _ (Ox t))
  .rw[mh hl]at q;refine{.bl _,H,I,rfl,?_};rw[OO,<-J];exact q
 .refine SeqAt.eq_list_lengthsAt o.isList r.isList (by simp only[OO,bne_iff_ne];lia) l {.bl false,H,I,rfl,?_};rw[yd hl]at q;exact q
theorem Ce{i:Nat}{x:Str}{v:V}{m:Str->Option Value}(I:Inv X pins σ H s)(hn:s.heap.Ns X.env.locals m)(g:X.N[i]?=ρ x)(j:σ[i]?=ρ (ρ v))(hk:X.env.scope.names.lookup x=ρ .local):∃u,m x=ρ u/\RelV v u:=by
 let{c,a,hl}:=I.loc
 have e:=vi hn a;subst e
 let{u,r,l}:=hl i x v g j (.inl hk)
 rcases l with⟨_,e⟩ |⟨k,_⟩
 .exact⟨u,e,r⟩
 .have b:X.env.scope.names.lookup x=ρ .cell\/X.env.scope.names.lookup x=ρ .free:=k;rw[hk]at b;rcases b with z |z<;>cases z
end
section
variable{m:Str}
def HC(K:O4)(T:String)(x:V)(H:Hp):Prop:=match x with
 |.str _=>T="str"
 |.int _=>T="int"
 |.ref p=>(T="list"/\∃xs,aK K H p xs)\/(T="tuple"/\∃o,K.lookup p=ρ o/\o.cls=.type "tuple"/\o.dict=τ) \/
   (T="dict"/\((∃kvs,H p=ρ (.dK kvs))\/∃kvs,H p=ρ (.dT kvs)))\/(T="set"/\∃S n,H p=ρ (.set S n))
 |_=>False
def EZ(K:O4)(T:String)(r:V->List V->Hp->VK->Prop)(to:TE):TE:=λσ H Q=>to σ H λx H1=>HC K T x H1/\r x [] H1 Q
def HD(K:O4)(T:String)(r:V->List V->Hp->VK->Prop)(to:TE)(t:TA):TE:=λσ H Q=>to σ H λx H1=>HC K T x H1/\t σ H1 λxs H2=>r x xs H2 Q
theorem rQ{X:Cx}(I:Inv X j σ H s)(g:eJ H a y o):s.TypeIs (.ref a) "dict":=by
 rcases g with⟨c,k,e,_,_⟩ |⟨c,k,b,e,_,_,_⟩
 .let{_,_,f,_,d}:=p0 I.aI e
  exact d.typeIs
 .let{_,_,h,_,d}:=vo I.aI e
  exact d.typeIs
theorem yt{P:Om}{w:World}{K:O4}{mg I:Str->Option Value}{CX:we}{k:Nat}{J a:Addr}{fd:P0}{x:Str}{sp:Sp}{g:Shared}{vs:List Value}{ns:List Int}
 (KX:K.In g.heap) (p:g.heap.Ns OG mg) (j:g.heap.Ns Ut I) (T:∀x:Str,x≠"__name__"->I x=P7 x) (t:g.heap.NoLimit) (hg:g.gens=#[])
 (ha:g.heap.get? a=ρ {cls:=.type "list",data:=.seq vs.6}) (hi:IntsAre vs ns) (hl:ns.9<=sizeLine) (hr:bA k callerA)
 (F:∀base:Heap,K.In base->base.Ns OG mg->aH P w K mg base CX k J fd [x] sp) (l:∀(s:Shared) (u:Value),BindsTo s fd {[u],[]} [(x,u)])
 (U:∀H:Hp,Only H->aK K H a (ns.map V.int)->sp [.ref a] H (λv _=>v=.bl true) λ_ _ _=>False)
 (KR:∀H e s',CX [] H g (λ_ _ _=>False) e s'->False) :
 codeAny (model P w) callerA (.call (.ref J) {[.ref a],[]}) (λr s'=>r=.ok (.ret (.bool true))/\OldK g.heap s'.heap/\s'.os=g.os/\AllBare s'.gens) g:=by
 have G:=oN hi;have f:=hi.9
 have core:∀H:Hp,Only H->aK K H a (ns.map V.int)->fw P w H g.heap->(∀b,H b≠τ->b=a)->(H a≠τ->K.lookup a=τ) ->
  codeAny (model P w) callerA (.call (.ref J) {[.ref a],[]}) (λr s'=>r=.ok (.ret (.bool true))/\OldK g.heap s'.heap/\s'.os=g.os/\AllBare s'.gens) g:=by
  intro H L O aI M Q;have vp:∀{b:Addr} {o:Obj},g.heap.get? b=ρ o->H b=τ->(pP g.heap H).get? b=ρ o:=λe n=>xW e n
  have D:∀{b:Addr} {o:Obj} {i:Array DictEntry} {y:Nat},g.heap.get? b=ρ o->o.data=.dict i y->H b=τ:=λ{b o i y} e d=>by
   cases q:H b with
   |none=>rfl
   |some u=>
    have E:b=a:=M b (by rw[q];simp);subst E;rw[ha]at e;cases e;have R:Data.seq vs.toArray _=Data.dict i y:=d;cases R
  have c:∀{b:Addr} {m:Str->Option Value},g.heap.Ns b m->(pP g.heap H).Ns b m:=λ{b m} ⟨o,i,y,e,d,r⟩=>{o,i,y,vp e (D e d),d,r}
  have A:K.In (pP g.heap H):=λb o e=>vp (KX b o e) (by
   cases q:H b with
   |none=>rfl
   |some u=>
    have E:b=a:=M b (by rw[q];simp);subst E
    rw[Q (by rw[q];simp)]at e;cases e)
  have S:Mod K mg (pP g.heap H):={A,c p,{I,c j,T},let ⟨X,Y,Z⟩:=t;{X,c Y,Z}};have e0:u0 P w K mg (pP g.heap H) callerA [] g H:={rfl,S,λb o e=>Ak e,S3 (wa _ _),trivial,λb j=>absurd (show b∈([]:List Addr) from j) (by simp),aI,.of_eq hg};refine Qy ((F _ A (c p)).run callerA [] g H {[.ref a],[]} [.ref a] [.ref a] _ _ hr e0 (l g (.ref a)) (.cons rfl .nil) (U H L O)) λr s' h=>?_
  cases r with
  |error e=>exact(KR H e s' h).elim
  |ok fl=>
   cases fl with
   |next=>exact OI h
   |brk=>exact OI h
   |cont=>exact OI h
   |ret u=>
    let{v,H',os,bare,un,B,r',q}:=h
    have q':v=.bl true:=q;subst q';obtain rfl:u=Td true:=r';refine{rfl,OldK.of_keep λb o e=>?_,os,bare}
    cases q:H b with
    |none=>exact un.keep b o e q (by intro z;exact absurd (show b∈([]:List Addr) from z) (by simp)) (by simp)
    |some u=>
     rcases L b with z |⟨ob,xs,z⟩
     .rw[q]at z;cases z
     .have z2:=un.iB b ob _ z
      let{N,_}:=aI b _ z
      let{e2,_}:=B b _ z2
      rw[e]at N;cases N;exact e2
 cases hk:K.lookup a with
 |some o=>
  have e:=KX a o hk;rw[ha]at e;cases e;refine core (λ_=>τ) (λ_=>.inl rfl) (.inr {_,vs.6,_,hk,rfl,rfl,rfl,by rw[OO,f];exact hl,by simpa using G}) (λb u z=>by have C:(τ:Option HO)=ρ u:=z;cases C) (λb z=>absurd rfl z) λz=>absurd rfl z
 |none=>
  refine core (λb=>if b=a then ρ (.frz {cls:=.type "list",data:=.seq vs.6} (.lst (ns.map V.int))) else τ) (λb=>?_) (.inl (.inr {{cls:=.type "list",data:=.seq vs.6},if_pos rfl})) (λb u z=>?_) (λb z=>?_) λ_=>hk
  .by_cases j:b=a
   .exact .inr {_,_,if_pos j}
   .exact .inl (if_neg j)
  .by_cases j:b=a
   .have C:=(if_pos j).symm.trans z;cases C;subst j;exact{ha,by rw[O5];exact hl,vs,_,G,ha}
   .have C:=(if_neg j).symm.trans z;cases C
  .by_cases j:b=a
   .exact j
   .exact absurd (if_neg j) z
theorem rR{X:Cx}{g:List (Addr×Obj)}{σ:St}{H:Hp}{s:Shared}{l:List Addr}{x y:V}{u v:Value}{j:Heap}(tk:Nat)(I:Inv X g σ H s)(p:∀b∈l,ib X g H b)(kp:∀b o,b∉l->s.heap.get? b=ρ o->j.get? b=ρ o)
 (t:j.get? s.8=ρ {cls:=.type "tuple",data:=.seq #[u,v]}) (C:RelV y u) (J:RelV x v) (hl:∀b∈l,b<s.8) :
 H s.8=τ/\Inv X g σ (upd H s.heap.objs.size (.tup [y,x])) {s with heap:=j,gens:=s.gens,drawn:=s.drawn,toks:=tk}/\∀b∈l,upd H s.heap.objs.size (.tup [y,x]) b=τ:=by
 have d:=I.aI.fresh (Ob s.8);have e:∀b o,H b=ρ o->b∉l:=λb o q z=>by rw[(p b z).1]at q;cases q
 have f:fw X.prog X.w (upd H s.heap.objs.size (.tup [y,x])) j:=by
  intro b o q
  by_cases a:b=s.8
  .subst a;rw[a5]at q;cases q;exact{by show 2<=sizeLine;decide,[u,v],.cons C (.cons J .nil),{_,t,rfl,1}}
  .rw[a8 a]at q;refine(I.aI b o q).iJ (λc v hc r=>?_) (λc r=>by rw[a8 (ae r d)];exact r) λc i r=>by rw[a8 (ae r d)];exact r
   rcases hc with z |z
   .rw[z]at r ⊢;exact kp b v (e b o q) r
   .exact kp c v (e c _ z) r
 refine{d,?_,λb a=>by rw[a8 (Oe (hl b a))];exact(p b a).1}
 refine I.step (ch:=l) (λb a=>?_) (λb o _ _ hc q _=>kp b o hc q) (λb o _ _ hc q _=>{o.slots,kp b o hc q}) (λb o _ q n=>by rw[a8 (Oe (Oa q))];exact n) (λb o hc q=>{o,kp b o hc q})
  (λb i r=>by rw[a8 (ae r d)];exact r) (λb o u r=>by rw[a8 (ae r d)];exact r) (λb ps r=>{#[],by rw[a8 (ae r d),r];simp})
  (λm ⟨o,k,A,h,r⟩=>{o,k,A,kp _ o (λz=>(p _ z).2.1 rfl) h,r}) f I.bare
 let{_,f1,_,B,D,E}:=p b a
 exact⟨B,f1,D,E⟩
theorem u5{X:Cx}{K:O4}(g:X.K=K):ie X (Pj .In) (Ht K false):=by
 subst g;exact hP
theorem yu{X:Cx}{K:O4}(g:X.K=K):DY X (CF K):=by
 subst g;exact aM
theorem D8{α:Type}{M:TK}{A:Around}{m:Sem α}{Q:α->Shared->Prop}{E:Value->Shared->Prop}{s:Shared}(h:wpAny M A m Q (λ_ _=>False) s):wpAny M A m Q E s:=OB h (λ_ _ x=>x) λ_ _ z=>z.elim
theorem u6{X:Cx}(I:Inv X g σ H s)(e:H d=ρ (.frz o (.dK kvs)))(j:o.data=.dict p ep) :
 ∃vs,KV kvs vs/\s.heap.DictAt (aR X.prog X.w) d vs ep:=by
 let{f,_}:=I.aI d _ e
 let{_,_,vs,rel,h,a,i,b,k,c,l}:=p0 I.aI (.inr ⟨o,e⟩)
 refine{vs,rel,h,a,b,k,?_,l};rw[f]at b;cases b;rw[c]at j;cases j;exact c
end
section
variable{X:Cx}{pins:List (Addr×Obj)}{σ:List (Option V)}{H:Hp}{s:Shared}{h':Heap}
theorem Inv.lt(I:Inv X pins σ H s):X.env.locals<s.8:=let ⟨_,hn,_⟩:=I.loc;hn.lt
theorem Inv.sz(I:Inv X pins σ H s):X.s₀.8<=s.8:=Od I.ok.above (Rw I.lt)
theorem Inv.HE(I:Inv X pins σ H s)(h:s.8<=a):a∉X.fs:=λb=>by
 let{_,o,c,_}:=I.ok.iC.mem b
 exact absurd (O7 (Oa c) (Od I.sz h)) (OX _)
theorem Inv.turned{t':Nat}{it:Addr}(I:Inv X pins σ H s)(k:∀b o,b≠it->s.heap.get? b=ρ o->h'.get? b=ρ o)(hn:H it=τ)(g:it≠X.env.locals)
 (j:it∈X.ex\/X.s₀.8<=it) (l:∀x c,X.env.cells.lookup x=ρ c->c≠it) (t:∀p∈X.pn++pins,p.1≠it):Inv X pins σ H {s with heap:=h',toks:=t'}:=by
 have a:∀b u,H b=ρ u->b≠it:=λb u e z=>by rw[z,hn]at e;cases e
 refine I.step (g':=s.gens) (d':=s.drawn) (ch:=[it]) (λb d=>?_) (λb o _ _ hc e _=>k b o (λz=>hc (by simp[z])) e) (λb o _ _ hc e _=>{o.slots,k b o (λz=>hc (by simp[z])) e}) (λ_ _ _ _ n=>n)
  (λb o hc e=>{o,k b o (λz=>hc (by simp[z])) e}) (λ_ _ e=>e) (λ_ _ _ e=>e) (λb ps e=>{#[],by rw[e];simp}) (λm f=>?_) (λb u e=>?_) I.bare
 .have e:b=it:=by simpa using d
  subst e;exact⟨j,g,l,t⟩
 .let{o,h,i,w,r}:=f
  exact{o,h,i,k _ o (Pz g) w,r}
 .refine(I.aI b u e).iJ (λc v hc q=>k c v ?_ q) (λ_ q=>q) λ_ _ q=>q;rcases hc with z |z
  .rw[z];exact a b u e
  .exact a c _ z
theorem pd{M:TK}{A:Around}{E:Value->Shared->Prop}{i:Nat}{x:Str}{v:V}{u:Value}{Q:Unit->Shared->Prop}(I:Inv X pins σ H s)(hN:X.N.Nodup)(hi:X.N[i]?=ρ x)(hx:Loc X.env.scope x)(r:RelV v u)
 (h:∀s',Inv X pins (σ.set i (ρ v)) H s'->(∃a,S4 a s.heap s'.heap/\(a=X.env.locals\/X.env.cells.lookup x=ρ a))->Q .unit s') (hf:X.fn x=true\/X.env.scope.names.lookup x=ρ .local:=by first |exact .inl rfl |exact .inr rfl |assumption):wpAny M A (V8 X.env x u) Q E s:=by
 let{m,hn,hl}:=id I.loc
 have J:(X.env.scope.kind == .class ||(X.env.scope.kind == .module&&X.env.locals != X.env.globals))=false:=by rw[I.ok.kind];rfl
 have hiσ:i<σ.9:=by rw[I.len];exact(O8.mp hi).1
 have tY:=I.tY
 have g:∀{a:Addr} {h':Heap},(∃o,s.heap.get? a=ρ o/\H a=τ)->S4 a s.heap h'->fw X.prog X.w H h':=λ{a h'} ha f b ob e=>by
  let{_,_,t}:=ha
  refine(I.aI b ob e).iJ (λc T hc q=>(f.2 c ?_).trans q) (λ_ q=>q) λ_ _ q=>q;rintro rfl;rcases hc with rfl |hc
  .rw[t]at e;cases e
  .rw[t]at hc;cases hc
 rcases hx with hk |hk
 .refine Ue hk hn (λh' Y f=>?_) J
  let{oL,_,_,Z,_}:=id hn
  refine h _ {I.ok,I.os,I.bare,{λb o e n C hx=>?_,λb o e n C hx=>?_,I.base.free,λb o e hx=>?_,I.base.iZ,I.base.iB,I.base.j0},{_,Y,λj y v' l B e3=>?_},λy c e=>?_,I.free,I.da,λp hp=>?_,g ⟨oL,Z,I.free⟩ f,by simpa using I.len} {_,f,.inl rfl}
  .exact(f.2 b (Oe (O7 (Oa e) I.ok.above))).trans (I.base.keep b o e n C hx)
  .let{sl,l}:=I.base.slot b o e n C hx
   exact{sl,(f.2 b (Oe (O7 (Oa e) I.ok.above))).trans l}
  .let{o',l}:=I.base.there b o e hx
   exact{o',(f.2 b (Oe (O7 (Oa e) I.ok.above))).trans l}
  .by_cases D:j=i
   .subst D;rw[hi]at l;cases l;rw[Qu hiσ]at B;cases B;exact{u,r,.inl {hk,by simp}}
   .rw[PZ (Pz D)]at B
    let{u',r',q}:=hl j y v' l B e3
    refine{u',r',?_};rcases q with⟨k,e⟩ |⟨k,c,e,z⟩
    .refine .inl {k,?_};have:y≠x:=λe=>D (j1 hN l (e ▸ hi));simp[this,e]
    .exact .inr {k,c,e,z.sameBut f (tY y c e)}
  .let{T,z}:=I.cell y c e
   exact{T,z.sameBut f (tY y c e)}
  .let{e,n,ne,nf,d}:=I.pin p hp
   exact{(f.2 p.1 ne).trans e,n,ne,nf,d}
 .have G:X.fn x=true:=by
   rcases hf with z |z
   .exact z
   .rw[z]at hk;cases hk
  let{c,hc}:=I.ok.has x (.inl hk)
  let{T,z}:=I.cell x c hc
  refine wpAny_storeName_cell I.ok.kind hk hc z (λh' L f=>?_)
  let{oc,O,R}:=id z
  refine h {s with heap:=h'} {I.ok,I.os,I.bare,{λb o e n C hx=>?_,λb o e n C hx=>?_,I.base.free,λb o e hx=>?_,I.base.iZ,I.base.iB,I.base.j0},{m,hn.sameBut f (Pz (tY x c hc)),λj y v' l B e3=>?_},λy U e=>?_,I.free,I.da,λp hp=>?_,g {oc,O,I.da x c hc} f,by simpa using I.len} {c,f,.inr hc}
  .exact(f.2 b (Oe (O7 (Oa e) (I.ok.BV x c G hc)))).trans (I.base.keep b o e n C hx)
  .let{sl,l}:=I.base.slot b o e n C hx
   exact{sl,(f.2 b (Oe (O7 (Oa e) (I.ok.BV x c G hc)))).trans l}
  .let{o',l}:=I.base.there b o e hx
   exact{o',(f.2 b (Oe (O7 (Oa e) (I.ok.BV x c G hc)))).trans l}
  .by_cases D:j=i
   .subst D;rw[hi]at l;cases l;rw[Qu hiσ]at B;cases B;exact{u,r,.inr {.inl hk,c,hc,L}}
   .rw[PZ (Pz D)]at B
    let{u',r',q}:=hl j y v' l B e3
    refine{u',r',?_};rcases q with q |⟨k,U,e,z'⟩
    .exact .inl q
    .refine .inr {k,U,e,z'.sameBut f ?_};rintro rfl;exact D (j1 hN l (I.ok.inj _ _ _ e hc ▸ hi))
  .by_cases S:U=c
   .subst S;exact{_,L}
   .let{w2,z2}:=I.cell y U e
    exact{w2,z2.sameBut f S}
  .let{e,n,ne,nf,d}:=I.pin p hp
   refine{(f.2 p.1 ?_).trans e,n,ne,nf,d};intro q;rw[q,O]at e;have q':oc=p.2:=Oc e;exact d T (by rw[<-q'];exact R)
theorem dP{E:Value->Shared->Prop}{Q:Unit->Shared->Prop}(I:Inv X pins σ H s)(g:X.N.Nodup)(hi:X.N[i]?=ρ x)(hx:Loc X.env.scope x)(r:RelV v u)
 (h:∀s',Inv X pins (σ.set i (ρ v)) H s'->Q .unit s') (j:X.fn x=true\/X.env.scope.names.lookup x=ρ .local:=by first |exact .inl rfl |exact .inr rfl |assumption):wpAny M A (V8 X.env x u) Q E s:=
 pd I g hi hx r (λs' a _=>h s' a) j
theorem wq{P:Om}{w:World}{K:O4}{J:Expr}(a it:Addr):Turn P w K J (DX K a) [it] it (λi h=>h.IsListIter it a i) where
 mem:=by simp
 obj:=λi h st b g=>by
  have e:b=it:=by simpa using g
  subst e
  let{o,e,c,d}:=st
  exact{o,e,λv z=>by rw[d]at z;cases z}
 keep:=λi h l st k=>st.at λo e=>k it (by simp) o e
 item:=by
  intro X q hw r hc i f s σ H E I m st t;subst q hw r
  let{L,x,n,hx}:=t
  let{y,A,p,M}:=I.list n
  let{u,N,O}:=A.get hx
  let{B,f1,f2,C,D,G}:=m it (by simp)
  refine wpAny_pyNext_list_item st p.isList (x:=u) (by simpa using N) λl j Q=>?_;have R:Inv X f σ H {s with heap:=l}:=I.turned (t':=s.toks) (λb o g e=>(Q.2 b g).trans e) B f1 C D G
  let{o,e,c,d}:=id j
  exact{u,rfl,uW (s:={s with heap:=l}) e c d ⋯ {x,H,R,O,{rfl,λU S=>by rw[I.rP S n];exact hx},j,λb g=>(m b g).1}}
 done:=by
   intro X q hw r hc i f s σ H E I m st t;subst q hw r
   let{L,n,hx}:=t
   let{y,A,p,M}:=I.list n
   let{B,f1,f2,C,D,G}:=m it (by simp)
   have hl:=A.9;exact wpAny_pyNext_list_end (I.ok.hd hc) st p.isList (by simp;lia) λl T=>{rfl,I.turned (t':=s.toks) (λb o g e=>T b o g e) B f1 C D G}
 self:=λ_ _ _ _ _ st h=>wpAny_pyIter_listiter st h
theorem u9{P:Om}{w:World}{K:O4}{C:Expr}(it:Addr)(lo:Int)(n:Nat):Turn P w K C (BX lo n) [it] it (λi h=>IsRangeIter h it (lo+(i:Nat)*1) ((n:Int)-(i:Nat)) 1) where
 mem:=by simp
 obj:=λi h st b c=>by
  have e:b=it:=by simpa using c
  subst e
  exact{_,st,λv z=>by
   have y:Vy _=VZ v:=z
   cases y}
 keep:=λi h f st k=>k it (by simp) _ st
 item:=by
  intro X j hw l hc i a s σ H E I g st m;subst j hw l
  let{p,f1,f2,q,r,u}:=g it (by simp)
  have A:=Walks.range (prog:=X.prog) (w:=X.w) (I.ok.hd hc) it lo 1 n;refine A.item i s _ _ m st λv f x B d D=>?_
  let{t,rfl}:=B
  have G:Inv X a σ H {s with heap:=f,toks:=x}:=I.turned (λb o c e=>D b o (by simpa using c) e) p f1 q r u;refine{1,uW (s:={s with heap:=f,toks:=x}) (n:="range_iterator") d rfl rfl ⋯ {.int (lo+i),H,G,{t,?_},⟨rfl,rfl⟩,d,λb c=>(g b c).1}};rw[Int.mul_one]
 done:=by
   intro X j hw l hc i a s σ H E I g st m;subst j hw l
   let{p,f1,f2,q,r,u}:=g it (by simp)
   exact wpAny_pyNext_range_end (I.ok.hd hc) st (by have:n<=i:=m;lia) λf J=>{rfl,I.turned (t':=s.toks) (λb o c e=>J b o c e) p f1 q r u}
 self:=λ_ _ _ _ _ st h=>wpAny_pyIter_rangeiter st h
set_option genInjectivity true in
inductive dE(K:O4)(H:Hp):V->Value->Prop where
 |non:dE K H .non (.type "NoneType")
 |bl (x:Bool):dE K H (.bl x) (.type "bool")
 |int (i:Int):dE K H (.int i) (.type "int")
 |str (x:Str):dE K H (.str x) (.type "str")
 |flt (x:UInt64):dE K H (.flt x) (.type "float")
 |lst {a:Addr} {xs:List V} (e:H a=ρ (.lst xs)):dE K H (.ref a) (.type "list")
 |frz {a:Addr} {o:Obj} {xs:List V} (e:H a=ρ (.frz o (.lst xs))):dE K H (.ref a) (.type "list")
 |tup {a:Addr} {xs:List V} (e:H a=ρ (.tup xs)):dE K H (.ref a) (.type "tuple")
 |dK {a:Addr} {kvs:List (Key×V)} (e:H a=ρ (.dK kvs)):dE K H (.ref a) (.type "dict")
 |dT {a:Addr} {kvs:List (List Key×V)} (e:H a=ρ (.dT kvs)):dE K H (.ref a) (.type "dict")
 |ins {a C dx:Addr} {fs:List (Str×V)} (e:H a=ρ (.ins C dx fs)) (cl:pR K C) (ha:OH K (.ref C) "__class__"=ρ (ρ (.builtin "object.__class__")))
   (hn:Vi K (.builtin "object.__class__") "__get__"=ρ (ρ (.builtin "getset_descriptor.__get__"))) (xP:PySem.W.takesIn K (.builtin "object.__class__")=ρ true)
   (hm:PySem.W.mroIn K C (.type "object")=ρ true):dE K H (.ref a) (.ref C)
end
section
variable{X:Cx}{e:Expr}{es:List Expr}{te:TE}{t:TJ}{pos:Pos}
theorem cb(he:PE X e te)(g:QK e τ pos.line X.5=pure false:=by rfl):PS X (.Expr e pos) (yp te):=by
 refine{?_};intro a s σ H D I h;exact wpAny_Expr_any (bb (he a s σ H _ I h) λv f ⟨x,b,c,i,d⟩=>⟨σ,b,c,d⟩) I.quiet g
theorem ai(he:PE X e te):PS X (.Return (ρ e) pos) (D2 te):=by
 refine{?_};intro a s σ H D I h;exact wpAny_Return_some (bb (he a s σ H _ I h) λv g ⟨x,b,c,d,f⟩=>⟨x,σ,b,c,d,f⟩)
theorem lQ(g:X.N.Nodup)(hi:X.N[i]?=ρ x)(hx:Loc X.env.scope x)(j:X.fn x=true\/X.env.scope.names.lookup x=ρ .local:=by first |exact .inl rfl |exact .inr rfl |assumption):PG X (.Name x pos) (gi i):=by
 refine{?_};intro a s σ H v u Q I r h;exact wpAny_assign_Name (dP I g hi hx r (λc b=>{_,H,b,h}) j)
theorem dF(h:PE X e te):PO X (ρ e) (En te):=by
 refine{?_};intro a s σ H Q I hw;rw[evalPart_some];refine bb (h a s σ H _ I hw) λu g ⟨x,b,c,d,f⟩=>?_
 let{i,rfl,q}:=f
 let{t,rfl}:=d
 exact{ρ i,b,c,.int i t,q}
theorem Az(C:V7 (model X.prog X.w) X.A X.env X.xe)(hc:X.calm=true)(hi:PI X tg iter wi)(hg:PG X tg g)(j:wo X body tb)
 (hs:∀x,Q4 iter X.env x=pure x:=by intro _;rfl):Gh X (.For tg iter body [] pos) (CZ wi g tb):=by
 refine{?_};intro a s σ H D I tk h;refine wpAny_For (OB (Qp tk (hi a s σ H _ I h)) (λv s1 ⟨U,h1⟩=>OB (Qp U h1) (λGf s2 ⟨V,h2⟩=>?_) λ_ _ e=>e.2) λ_ _ e=>e.2) hs
 let{it,E,tn,J,H2,e,I2,T,Y,f2,W,{m0,w0},G}:=h2
 subst e;have k:∀{y:Hp},(∀b∈E,y b=τ)->∀b∈E,ib X a y b:=λhn b j=>{hn b j,(f2 b j).2};refine UK (λn Z=>1<=Z.toks/\∃i l y,Inv X a l y Z/\tn i Z.heap/\(∀b∈E,y b=τ)/\W i n l y) ?_ m0 ⟨V,0,σ,H2,I2,Y,λb j=>(f2 b j).1,w0⟩;rintro n s3 ⟨KS,i,p,R,I3,L,M,w3⟩;rcases G i n p R w3 with⟨stop,qn⟩ |⟨go,N,hN,step⟩
 .refine Pk C (bb (T.done X rfl rfl rfl hc i a s3 p R X.xe I3 (k M) L stop) λr s4 ⟨hr,I4⟩=>?_);subst hr;exact PQ ⟨p,R,I4,qn⟩
 .refine Pk C (OB (Qp KS (T.item X rfl rfl rfl hc i a s3 p R X.xe I3 (k M) L go)) (λr s4 ⟨KU,u,hr,h4⟩=>?_) λ_ _ e=>e.2);subst hr;refine Pk C (OB (Qp KU h4) (λ_ s5 ⟨KW,x,H5,I5,r5,y5,B,F0⟩=>?_) λ_ _ e=>e.2);have F1:=I5.pinned (k F0) (T.obj _ _ B);refine Pk C (OB (Qp KW (hg _ s5 p H5 x u _ F1 r5 (step x H5 y5))) (λ_ s6 ⟨O,σ6,H6,I6,q6⟩=>?_) λ_ _ e=>e.2);refine Pk C (OB (Qp O (j _ s6 σ6 H6 _ I6 O q6)) (λf S ⟨KY,z⟩=>?_) λ_ _ e=>e.2)
  have again:∀{c:St} {q:Hp},Inv X (a++iE E s5.heap) c q S->N c q->∃m,m<n/\1<=S.toks/\∃i l y,Inv X a l y S/\tn i S.heap/\(∀b∈E,y b=τ)/\W i m l y:=λ{c q} t Q=>by
   let{m',hm,w7}:=hN c q Q
   refine{m',hm,KY,i+1,c,q,t.df,T.keep _ _ _ B λb j o e=>(t.pin (b,o) (Ow _ (Ow _ (bU j e)))).1,λb j=>?_,w7}
   let{o,e,d}:=T.obj _ _ B b j
   exact(t.pin (b,o) (Ow _ (Ow _ (bU j e)))).2.1
  cases f with
  |next=>let{c,q,t,Q}:=z;exact again t Q
  |cont=>let{c,q,t,Q}:=z;exact again t Q
  |brk=>let{c,q,t,z}:=z;exact⟨c,q,t.df,z⟩
  |ret v=>let{x7,c,q,t,r7,z}:=z;exact⟨x7,c,q,t.df,r7,z⟩
noncomputable def HF(z:Str)(t:TJ):TJ:=λacc σ H Q=>(acc++z).9<=sizeLine/\t (acc++z) σ H Q
noncomputable def HG(te:TE)(t:TJ):TJ:=λacc σ H Q=>te σ H λv H1=>(∃i,v=.int i/\i.natAbs.log2<1920/\(acc++(toString i:String)).length<=sizeLine/\t (acc++(toString i:String)) σ H1 Q)\/(∃z,v=.str z/\z.9<=sizeLine/\(acc++z).9<=sizeLine/\t (acc++z) σ H1 Q)
theorem lR(h:PJ X (e::g::es) t):PE X (.JoinedStr (e::g::es) pos) (λσ H Q=>t Str.empty σ H λz j=>Q (.str z) j):={λa s σ H Q I q=>
 JoinedStr_many (bb (h a s σ H _ _ I q) λu f ⟨z,b,c,r,d⟩=>{.str z,b,c,r,d})}
end
section
variable{X:Cx}{st:Stmt}{rest:List Stmt}{t u:TS}
def yv(t u:TS):TS:=λD σ H=>t (D.Hw (u D)) σ H
theorem a0(g:PS X st t)(j:q8 X rest u):q8 X (st::rest) (yv t u):=by
 refine{?_};intro a s σ H D I h;refine Pw (bb (g a s σ H (D.Hw (u D)) I h) λf c q=>?_)
 cases f with
 |next=>
  let{b,d,e,q}:=q
  exact j a c b d D e q
 |ret v=>exact q
 |brk=>exact q
 |cont=>exact q
theorem a6(g:PS X st t):q8 X [st] t:=by
 refine{?_};intro a s σ H D I h;refine Pw (bb (g a s σ H D I h) λf b q=>?_)
 cases f with
 |next=>exact PQ q
 |ret v=>exact q
 |brk=>exact q
 |cont=>exact q
def F4(c:TT)(t u:TS):TS:=λD σ H=>c σ H λb H1=>if b=true then t D σ H1 else u D σ H1
theorem PS.F5(h:PS X st t):Gh X st t:={λa s σ H D I _ q=>h a s σ H D I q}
theorem pe(g:Gh X st t)(j:wo X rest u):wo X (st::rest) (yv t u):=by
 refine{?_};intro a s σ H D I d h;refine Pw (OB (Qp d (g a s σ H (D.Hw (u D)) I d h)) (λf i ⟨b,q⟩=>?_) λ_ _ e=>e.2)
 cases f with
 |next=>
  let{c,k,l,q}:=q
  exact j a i c k D l b q
 |ret v=>exact q
 |brk=>exact q
 |cont=>exact q
theorem yw(g:Gh X st t):wo X [st] t:=by
 refine{?_};intro a s σ H D I b h;refine Pw (bb (g a s σ H D I b h) λf c q=>?_)
 cases f with
 |next=>exact PQ q
 |ret v=>exact q
 |brk=>exact q
 |cont=>exact q
end
section
variable{X:Cx}{pins:List (Addr×Obj)}{σ:St}{H:Hp}{s:Shared}{E:Value->Shared->Prop}
theorem Inv.iD(I:Inv X pins σ H s)(E:Value->Shared->Prop):Inv (X.iD E) pins σ H s:={I.ok.iD E,I.os,I.bare,I.base,I.loc,I.cell,I.free,I.da,I.pin,I.aI,I.len}
theorem Inv.cV(I:Inv (X.iD E) pins σ H s):Inv X pins σ H s:=⟨I.ok.cV,I.os,I.bare,I.base,I.loc,I.cell,I.free,I.da,I.pin,I.aI,I.len⟩
theorem SP.cV(h:SP (X.iD E) pins D f s'):SP X pins D f s':=by
 cases f with
 |next=>let{a,b,I,q}:=h;exact⟨a,b,I.cV,q⟩
 |brk=>let{a,b,I,q}:=h;exact⟨a,b,I.cV,q⟩
 |cont=>let{a,b,I,q}:=h;exact⟨a,b,I.cV,q⟩
 |ret u=>let{v,a,b,I,r,q}:=h;exact⟨v,a,b,I.cV,r,q⟩
theorem q8.BW{st:List Stmt}{t:TS}(h:q8 X.BW st t):q8 X st t:={λpins s σ H D I hw=>
 OB (h pins s σ H D (I.iD _) hw) (λ_ _ q=>q.cV) λ_ _ z=>OI z}
theorem Inv.AA(I:Inv X pins σ H s):u0 X.prog X.w X.K X.mg X.base X.A X.stack s H:=
 {I.ok.frames,I.ok.mod,I.bs,Od I.ok.uV I.sz,I.stack,I.j6,I.aI,I.bare}
theorem Inv.big(I:Inv X pins σ H s):Q8<s.8:=by
 have h:OG<s.8:=(I.mod.glob.keeps I.bk).lt;exact Nat.lt_trans ⋯ h
end
section
variable{X:Cx}{a b:Expr}{pos:Pos}{tA Gi:TT}{rest:List Expr}
theorem qe(ha:PT X a tA)(j:PW X (.BoolOp .And (b::rest) pos) Gi):PW X (.BoolOp .And (a::b::rest) pos) (Eg tA Gi):=by
 refine{?_};intro i d s σ H Q I h;refine isTrue_and (bb (ha d s σ H _ I h) λc k ⟨e,f,g⟩=>?_)
 cases c with
 |true=>exact j i d k σ e Q f g
 |false=>exact⟨e,f,g⟩
theorem cQ(ha:PT X a tA)(j:PW X (.BoolOp .Or (b::rest) pos) Gi):PW X (.BoolOp .Or (a::b::rest) pos) (KA tA Gi):=by
 refine{?_};intro i d s σ H Q I h;refine isTrue_or (bb (ha d s σ H _ I h) λc k ⟨e,f,g⟩=>?_)
 cases c with
 |true=>exact⟨e,f,g⟩
 |false=>exact j i d k σ e Q f g
theorem yx{i:Nat}{x:Str}{e:Expr}{j:TE}{g:Pos}(l:X.N.Nodup)(hi:X.N[i]?=ρ x)(hx:Loc X.env.scope x)(he:PE X e j)(o:QK e (ρ (.Name x g)) pos.line X.5=pure false:=by rfl)(p:X.fn x=true\/X.env.scope.names.lookup x=ρ .local:=by first |exact .inl rfl |exact .inr rfl |assumption) :
 PS X (.Assign [.Name x g] e pos) (wm j (gi i)):=by
 refine{?_};intro a s σ H D I h;refine Qm (bb (he a s σ H _ I h) λv m ⟨y,b,c,d,f⟩=>?_) o;exact dP c l hi hx d (λn k=>{_,b,k,f}) p
theorem qf{i:Nat}{x:Str}{e:Expr}{o:TE}{op:Operator}{p:G9}{g:Pos}(t:X.N.Nodup)(hi:X.N[i]?=ρ x)(hx:Loc X.env.scope x)(he:PE X e o)(C:Ge X op p)(J:X.fn x=true\/X.env.scope.names.lookup x=ρ .local:=by first |exact .inl rfl |exact .inr rfl |assumption) :
 PS X (.AugAssign (.Name x g) op e pos) (Hx i o p):=by
 refine{?_};intro a s σ H D I h
 let{v,n,h}:=h
 let{m,hn,hl}:=I.loc
 have j:Cz X.env.scope x:=by rcases hx with k |k;exact .inl k;exact .inr (.inl k)
 let{u,r,l}:=hl i x v hi n j
 refine wpAny_AugAssign_Name ?_
 have go:wpAny (model X.prog X.w) X.A (eval e X.5) (λw d=>wpAny (model X.prog X.w) X.A (inplaceOp op u w) (λr f=>wpAny (model X.prog X.w) X.A (V8 X.env x r) (λ_=>SP X a D .next) X.xe f) X.xe d) X.xe s:=by
  refine bb (he a s σ H _ I h) λw q ⟨y,B,E,G,L⟩=>?_;refine bb (C a q σ B v y u w _ E r G L) λz U ⟨V,M,O,Q,R⟩=>?_;exact dP O t hi hx Q (λY S=>{_,M,S,R}) J
 rcases l with⟨hk,T⟩ |⟨hk,c,hc,b⟩
 .exact Qi I.ok.kind hk hn T go
 .rcases hk with hk |hk
  .exact UJ I.ok.kind hk hc b go
  .rcases hx with k |k
   .have:X.env.scope.names.lookup x=ρ .free:=hk;rw[k]at this;cases this
   .have:X.env.scope.names.lookup x=ρ .free:=hk;rw[k]at this;cases this
theorem yy(I:Inv X g σ H s)(r:RelV x v)(ty:HC X.K T x H) :
 s.TypeIs v T/\∀a,v=.ref a->∃ob,s.heap.get? a=ρ ob/\ob.dict=τ:=by
 cases x with
 |str z=>
  let{t,rfl}:=r
  cases(show T="str" from ty);exact{R6 s z t,λ_ e=>nomatch e}
 |int i=>
  let{t,rfl}:=r
  cases(show T="int" from ty);exact{typeIs_int s i t,λ_ e=>nomatch e}
 |ref p=>
  cases r;rcases ty with⟨rfl,j,f⟩ |⟨rfl,o,hk,hc,hd⟩ |⟨rfl,hk⟩ |⟨rfl,S,n,hk⟩
  .let{h,_,pl,_}:=I.list f
   refine{pl.isList.typeIs,λa e=>?_};cases e
   let{o,n,e,c,hd,_}:=pl
   exact⟨o,e,hd⟩
  .refine{{o,I.dC p o hk,hc},λa e=>?_};cases e;exact{o,I.dC _ o hk,hd}
  .have z:∃o,s.heap.get? p=ρ o/\o.ExactDict:=by
    rcases hk with⟨b,hk⟩ |⟨b,hk⟩
    .let{_,_,_,_,o,_,_,e,ex,_}:=I.aI p _ hk
     exact⟨o,e,ex⟩
    .let{_,_,_,_,o,_,_,e,ex,_}:=I.aI p _ hk
     exact⟨o,e,ex⟩
   let{o,e,ex}:=z
   refine{⟨o,e,ex.1⟩,λa d=>?_};cases d;exact⟨o,e,ex.2.1⟩
  .let{o,_,_,_,e,ex,_}:=I.aI p _ hk
   refine{⟨o,e,ex.1⟩,λa d=>?_};cases d;exact⟨o,e,ex.2.1⟩
 |_=>exact OI ty
theorem AP.cV{E:Value->Shared->Prop}{Q:List V->Hp->Prop}(h:AP (X.iD E) g σ Q us s'):AP X g σ Q us s':=by
 let{a,b,I,r,q}:=h
 exact⟨a,b,I.cV,r,q⟩
end
section
variable{x:Str}{cl:List (Str×Addr)}
theorem Inv.wt{X:Cx}(I:Inv X g σ H s)(j:s.8<=b)(hn:l b=τ):ib X g l b:=by
 refine{hn,Py (O7 I.lt j),I.HE j,.inr (Od I.sz j),λx c e z=>?_,λp a z=>?_}
 .let{v,q}:=I.cell x c e
  exact absurd (O7 q.lt (by rw[z];exact j)) (OX _)
 .exact absurd (O7 (Oa (I.pin p a).1) (by rw[z];exact j)) (OX _)
theorem j8{X:Cx}(g:vj X E):Passes (oY X.prog X.w) X E:=λa σ H s k d I h=>by
 let{e,C,f,i,rfl,c,bare,un,aI,F,j}:=h
 exact g a σ i d e C f (I.oZ c un aI bare λb z=>absurd z (by simp)) (F.low I.sz) j
theorem dQ{y:Str}{c C:Addr}(e:((x,C)::cl).lookup y=ρ c):(y=x/\c=C)\/(y≠x/\cl.lookup y=ρ c):=by
 rw[OA]at e
 cases q:y==x with
 |true=>
  rw[q]at e;exact .inl {eq_of_beq q,(Oc e).symm}
 |false=>
  rw[q]at e;exact .inr {λz=>by rw[z]at q;simp at q,e}
theorem rS{y:Str}{c C:Addr}(h:y≠x)(e:cl.lookup y=ρ c):((x,C)::cl).lookup y=ρ c:=by
 rw[OA,beq_eq_false_iff_ne.mpr h];exact e
end
section
variable{fs ex:List Addr}{H:Hp}{h h':Heap}{a:Addr}{o:HO}
theorem Un.kept(k:∀b u,h.get? b=ρ u->h'.get? b=ρ u):Un fs ex H H h h':=
 {λb ob q _ _ _=>k b ob q,λb ob q _ _ _=>{ob.slots,k b ob q},λ_ _ _ n _=>n,λb ob q _=>{ob,k b ob q},λ_ _ q=>q,λ_ _ _ q=>q,λ_ ps q=>{#[],by rw[q];simp}}
theorem Un.refl:Un fs ex H H h h:=Un.kept λ_ _ q=>q
theorem Un.laid(k:∀b u,h.get? b=ρ u->h'.get? b=ρ u)(g:h.7<=a)(hn:H a=τ):Un fs ex H (upd H a o) h h' where
 keep:=λb u q _ _ _=>k b u q
 slot:=λb u q _ _ _=>{u.slots,k b u q}
 free:=λb u q n _=>by rw[a8 (Oe (O7 (Oa q) g))];exact n
 there:=λb u q _=>{u,k b u q}
 iZ:=λb c q=>by rw[a8 (ae q hn)];exact q
 iB:=λb u c q=>by rw[a8 (ae q hn)];exact q
 j0:=λb ps q=>{#[],by rw[a8 (ae q hn),q];simp}
end
section
variable{X:Cx}{pins:List (Addr×Obj)}{σ:List (Option V)}{H:Hp}{s:Shared}{h':Heap}
theorem Inv.tok(I:Inv X pins σ H s)(t:Nat):Inv X pins σ H {s with toks:=t}:=I.un (h':=s.heap) (t':=t) Un.refl I.aI
theorem Inv.kept(I:Inv X pins σ H s)(k:∀b u,s.heap.get? b=ρ u->h'.get? b=ρ u):Inv X pins σ H {s with heap:=h',toks:=t'}:=I.un (Un.kept k) (I.aI.kept k)
theorem Inv.laid(I:Inv X pins σ H s)(k:∀b u,s.heap.get? b=ρ u->h'.get? b=ρ u)(g:s.8<=a)(new:b6 X.prog X.w (upd H a o) h' a o) :
 Inv X pins σ (upd H a o) {s with heap:=h',toks:=t'}:=I.un (Un.laid k g (I.aI.fresh g)) (I.aI.laid k g new)
theorem a9{i j pos}:PE X (.Constant (.int i) j pos) (tC (.int i)):={λ_ _ _ H _ I h=>wpAny_Constant_int {.int i,H,I.tok _,{_,rfl},h}}
theorem ao{x j pos}:PE X (.Constant (.str x) j pos) (tC (.str x)):={λ_ _ _ H _ I h=>Rx {.str x,H,I.tok _,{_,rfl},h}}
theorem yz:Ge X .Add (Jc λi j=>i+j):=by
 intro a s σ H x y v u Q I b c h
 let{i,j,d,e,q}:=h
 subst d;subst e
 let{t,rfl}:=b
 let{f,rfl}:=c
 exact iadd_int {.int _,H,I.tok _,{_,rfl},q}
theorem D9:Ge X .Sub (Jc λi j=>i-j):=by
 intro a s σ H x y v u Q I b c h
 let{i,j,d,e,q}:=h
 subst d;subst e
 let{t,rfl}:=b
 let{f,rfl}:=c
 exact isub_int {.int _,H,I.tok _,{_,rfl},q}
theorem fy:DY X GU:=by
 intro value slice a s σ H x y v u Q I b d h e
 let{z,i,c,rfl,rfl,m,f,q}:=h
 let{t,rfl}:=b
 let{n,rfl}:=d
 let{j,g,o,p,k,l}:=lO f
 have hl:z.cps.toList.9=z.9:=by simp[QF]
 rw[hl]at g k l;have hn:=jW
 exact tail_any (R6 s z t) Tn.lookup (getItem_str (c:=c) (by
  grind) (by grind) {.str {#[c]},H,I.tok _,{_,rfl},q}) e
theorem qg:PJ X [] GZ:={λb s σ H a Q I h=>joinParts_nil {a,H,I.tok _,{_,rfl},h.2} h.1}
end
section
variable{X:Cx}{tg:Expr}
theorem bP{l:Expr}{g:TE}(hl:PE X l g):PI X tg l (BZ X.K g):=by
 refine{?_};intro c s σ H R I h;refine bb (hl c s σ H _ I h) λv d ⟨x,i,f,j,k⟩=>?_
 let{a,e,{t,m},q}:=k
 subst e;cases j
 let{n,u,p,w}:=f.list m
 refine T5 p.isList ?_;refine{d.8,[d.8],_,_,i,rfl,f.kept (t':=d.toks) λb o e=>O9 _ e,wq a _,{_,Oq _ rfl,rfl,rfl},λb r=>?_,q};have e:b=d.8:=by simpa using r
 subst e;exact f.wt (Ob _) (f.aI.fresh (Ob _))
theorem rT{g:List (Addr×Obj)}{σ:St}{H:Hp}{s:Shared}{R:It->Hp->Prop}{E:Value->Shared->Prop}{lo hi:Int}{t u v:Tok}{tk:Nat}(I:Inv X g σ H s)(j:-(2^62)<=lo)(l:lo<2^62)(p:-(2^62)<=hi)(r:hi<2^62)
 (q:R (BX lo (hi-lo).toNat) H):wpAny (model X.prog X.w) X.A (pyIter (.ref s.8)) (EV X g σ tg R) E {s with heap:=s.heap.push {cls:=.type "range",data:=.fields #[.int lo t,.int hi u,.int 1 v]},toks:=tk}:=by
 refine wpAny_pyIter_range (IsRange.new ..) (small_one j l p r) ?_;have a:Inv X g σ H {s with heap:=s.heap.push {cls:=.type "range",data:=.fields #[.int lo t,.int hi u,.int 1 v]},toks:=tk}:=I.kept λb o e=>O9 _ e
 refine{(s.heap.push {cls:=.type "range",data:=.fields #[.int lo t,.int hi u,.int 1 v]}).7,[(s.heap.push {cls:=.type "range",data:=.fields #[.int lo t,.int hi u,.int 1 v]}).7],_,_,H,rfl,
  a.kept (t':=tk) λb o e=>O9 _ e,u9 _ lo (hi-lo).toNat,?_,λb c=>?_,q}
 .have d:lo+((0:Nat):Int)*1=lo:=by simp
  have f:(((hi-lo).toNat:Nat):Int)-((0:Nat):Int)=Builtin.Range.rangeSize lo hi 1:=by rw[rangeSize_one];split<;>lia
  show IsRangeIter _ _ (lo+((0:Nat):Int)*1) ((((hi-lo).toNat:Nat):Int)-((0:Nat):Int)) 1;rw[d,f];exact Oq _ rfl
 .have e:b=(s.heap.push {cls:=.type "range",data:=.fields #[.int lo t,.int hi u,.int 1 v]}).7:=by simpa using c
  subst e;exact a.wt (Ob _) (a.aI.fresh (Ob _))
theorem cu(g:Gl X "range")(l:X.mg "range"=τ)(ha:PA X [a] o)(C:starEach [a] X.5=[(false,eval a X.5)]:=by rfl):PI X tg (.Call (.Name "range" p) [a] [] pos) (Ei o):=by
 refine{?_};intro b s σ H R I h;refine Call_ (iI I g l boot_range (Q6 (bb (ha pos b s σ H _ I h) λm n ⟨u,v,d,f,c⟩=>?_) C rfl))
 let{j,e,c,i,q}:=c
 subst e
 cases f with
 |cons r k=>
  cases k
  let{t,rfl}:=r
  exact call_range_1 (rT d () () c i (by simpa using q))
theorem wu(l:Gl X "range")(o:X.mg "range"=τ)(ha:PA X [a,b] C)(J:starEach [a,b] X.5=[(false,eval a X.5),(false,eval b X.5)]:=by rfl)(g:starEach [b] X.5=[(false,eval b X.5)]:=by rfl) :
 PI X tg (.Call (.Name "range" p) [a,b] [] pos) (Ej C):=by
 refine{?_};intro c s σ H R I h;refine Call_ (iI I l o boot_range (Q6 (bb (ha pos c s σ H _ I h) λx y ⟨z,A,k,m,d⟩=>?_) (by rw[J,g]) (by rw[g];rfl)))
 let{i,j,e,{d,n,u,v},q}:=d
 subst e
 cases m with
 |cons r f=>
  cases f with
  |cons w f=>
   cases f
   let{t,rfl}:=r
   let{B,rfl}:=w
   exact call_range_2 (rT k d n u v q)
theorem gu(C:V7 (model X.prog X.w) X.A X.env X.xe)(hc:X.calm=true)(hi:PI X tg iter wi)(hg:PG X tg g)(j:q8 X body tb)
 (hs:∀x,Q4 iter X.env x=pure x:=by intro _;rfl):PS X (.For tg iter body [] pos) (CZ wi g tb):=by
 refine{?_};intro a s σ H D I h;refine wpAny_For (bb (hi a s σ H _ I h) λv s1 h1=>bb h1 λGf s2 h2=>?_) hs
 let{it,E,tn,J,H2,e,I2,T,R,f2,W,{m0,w0},G}:=h2
 subst e;have k:∀{y:Hp},(∀b∈E,y b=τ)->∀b∈E,ib X a y b:=λhn b j=>{hn b j,(f2 b j).2};refine UK (λn s'=>∃i l y,Inv X a l y s'/\tn i s'.heap/\(∀b∈E,y b=τ)/\W i n l y) ?_ m0 ⟨0,σ,H2,I2,R,λb j=>(f2 b j).1,w0⟩;rintro n s3 ⟨i,p,Q,I3,L,M,w3⟩;rcases G i n p Q w3 with⟨stop,qn⟩ |⟨go,N,hN,step⟩
 .refine Pk C (bb (T.done X rfl rfl rfl hc i a s3 p Q X.xe I3 (k M) L stop) λr s4 ⟨S,I4⟩=>?_);subst S;exact PQ ⟨p,Q,I4,qn⟩
 .refine Pk C (bb (T.item X rfl rfl rfl hc i a s3 p Q X.xe I3 (k M) L go) λr s4 ⟨u,S,h4⟩=>?_);subst S;refine Pk C (bb h4 λ_ s5 ⟨x,H5,I5,r5,y5,B,U⟩=>?_);have V:=I5.pinned (k U) (T.obj _ _ B);refine Pk C (bb (hg _ s5 p H5 x u _ V r5 (step x H5 y5)) λ_ s6 ⟨Y,H6,I6,q6⟩=>?_);refine Pk C (bb (j _ s6 Y H6 _ I6 q6) λf Z z=>?_)
  have again:∀{c:St} {q:Hp},Inv X (a++iE E s5.heap) c q Z->N c q->∃m,m<n/\∃i l y,Inv X a l y Z/\tn i Z.heap/\(∀b∈E,y b=τ)/\W i m l y:=λ{c q} t O=>by
   let{m',hm,w7}:=hN c q O
   refine{m',hm,i+1,c,q,t.df,T.keep _ _ _ B λb j o e=>(t.pin (b,o) (Ow _ (Ow _ (bU j e)))).1,λb j=>?_,w7}
   let{o,e,d}:=T.obj _ _ B b j
   exact(t.pin (b,o) (Ow _ (Ow _ (bU j e)))).2.1
  cases f with
  |next=>let{c,q,t,O}:=z;exact again t O
  |cont=>let{c,q,t,O}:=z;exact again t O
  |brk=>let{c,q,t,z}:=z;exact⟨c,q,t.df,z⟩
  |ret v=>let{x7,c,q,t,r7,z}:=z;exact⟨x7,c,q,t.df,r7,z⟩
theorem Gj{f:Value->Value->Sem Value}{C:Int->Int->Prop}{g:Int->Int->Int}
 (rule:∀(i j:Int) (t u:Tok) (s:Shared) (Q:Value->Shared->Prop) (E:Value->Shared->Prop),C i j->Q (.int (g i j) s.toks) {s with toks:=s.toks+1}->wpAny (model X.prog X.w) X.A (f (.int i t) (.int j u)) Q E s) :
 ie X f (rI C λi j=>.int (g i j)):=by
 intro a s σ H x y v u Q I b c h
 let{i,j,rfl,rfl,hc,q}:=h
 let{t,rfl}:=b
 let{d,rfl}:=c
 exact rule i j t d s _ _ hc {.int (g i j),H,I.tok _,{_,rfl},q}
theorem F6{f:Value->Value->Sem Value}{g:Int->Int->Int}
 (rule:∀(i j:Int) (t u:Tok) (s:Shared) (Q:Value->Shared->Prop) (E:Value->Shared->Prop),Q (.int (g i j) s.toks) {s with toks:=s.toks+1}->wpAny (model X.prog X.w) X.A (f (.int i t) (.int j u)) Q E s) :
 ie X f (xN λi j=>.int (g i j)):=by
 intro a s σ H x y v u Q I b c h
 let{i,j,rfl,rfl,q}:=h
 let{t,rfl}:=b
 let{d,rfl}:=c
 exact rule i j t d s _ _ {.int (g i j),H,I.tok _,{_,rfl},q}
theorem eL:ie X (binaryOp .Add) (xN λi j=>.int (i+j)):=F6 λ_ _ _ _ _ _ _ q=>add_int q
theorem mx:ie X (binaryOp .Sub) (xN λi j=>.int (i-j)):=F6 λ_ _ _ _ _ _ _ q=>sub_int q
theorem ua:ie X (binaryOp .Mult) (rI xX λi j=>.int (i*j)):=Gj λ_ _ _ _ _ _ _ hc q=>mul_int q hc.ok
theorem lS:ie X (binaryOp .FloorDiv) (rI Ek λi j=>.int (i/j)):=Gj λi j _ _ _ _ _ hc q=>by
 have a:(0:Int)<j:=hc.1;have b:j<1073741824:=hc.2;exact floordiv_int 1.0 (by rw[Int.fdiv_eq_ediv_of_nonneg i 1.0];exact q) (.inl (PyProof.noPylong_small 1.0))
theorem dn:ie X (binaryOp .Mod) (rI (λ_ j=>0<j) λi j=>.int (i%j)):=Gj λi j _ _ _ _ _ hc q=>by
 have a:(0:Int)<j:=hc;exact mod_int' () (by rw[Int.fmod_eq_emod_of_nonneg i ()];exact q)
theorem Dc:ie X (binaryOp .Pow) (rI GQ λi j=>.int (i^j.toNat)):=Gj λ_ _ _ _ _ _ _ hc q=>pow_int_small hc.1 hc.2.1 hc.2.2 q
theorem KZ{f:Value->Sem Value}{g:Int->Int}
 (rule:∀(i:Int) (t:Tok) (s:Shared) (Q:Value->Shared->Prop) (E:Value->Shared->Prop),Q (.int (g i) s.toks) {s with toks:=s.toks+1}->wpAny (model X.prog X.w) X.A (f (.int i t)) Q E s) :
 Hu X f (rU λi=>.int (g i)):=by
 intro a s σ H x v Q I b h
 let{i,rfl,q}:=h
 let{t,rfl}:=b
 exact rule i t s _ _ {.int (g i),H,I.tok _,{_,rfl},q}
theorem yA:Hu X (unaryOp .USub) (rU λi=>.int (-i)):=KZ λ_ _ _ _ _ q=>neg_int q
theorem av:ie X (binaryOp .Add) (λx y H Q=>∃i j,x=.str i/\y=.str j/\i.9+j.9<=sizeLine/\Q (.str (i++j)) H):=by
 intro a s σ H x y v u Q I b c h
 let{i,j,rfl,rfl,d,q}:=h
 let{t,rfl}:=b
 let{e,rfl}:=c
 exact W0 (λe f=>{.str (i++j),H,I.tok _,{_,rfl},q}) d
theorem rV:ie X (inplaceOp .Add) (λx y H Q=>∃i j,x=.str i/\y=.str j/\i.9+j.9<=sizeLine/\Q (.str (i++j)) H):=by
 intro a s σ H x y v u Q I b c h
 let{i,j,rfl,rfl,d,q}:=h
 let{t,rfl}:=b
 let{e,rfl}:=c
 exact iadd_str (λe f=>{.str (i++j),H,I.tok _,{_,rfl},q}) d
theorem wx{CX:we}{P:Om}{w:World}{K:O4}{mg:Str->Option Value}{base:Heap}{N ps:List Str}{g:Str}{scope:Qr}{f:Addr}{cd:Value}{A:Around}{outer:List Env}{s s1:Shared}{H:Hp}{E:XK}{us:List Value}{vs:List V}
 (S:hG N ps scope) (hd:A.handled=τ) (j:u0 P w K mg base A outer s H) (hl:vs.9=ps.9) (r:Vals vs us)
 (x:InCallC s s.heap.objs.size (bindL (envOfC g scope s.heap.objs.size f cd).kindOf (ps.zip us) λ_=>τ) (RT (s.8+1) scope.names []) (bindC (envOfC g scope s.heap.objs.size f cd).kindOf (ps.zip us) λ_=>τ) s1) :
 Inv (mw CX P w K mg base N g scope f cd A outer s H E) [] (start N vs) H s1:=by
 have D:ps.9<=N.9:=by have:=congrArg Rp S.pre;rw[OT]at this;lia
 let{B,I,rfl,hk}:=x.done
 have l:∀b:Addr,b∉(mw CX P w K mg base N g scope f cd A outer s H E).ex:=λb z=>absurd (show b∈([]:List Addr) from z) (by simp)
 refine{{j.mod,S.kind,rfl,rfl,Ob _,λy z c B d=>?_,λy m=>?_,λy c _ h=>?_,λ_=>hd,Around.frames_deeper j.frames,.inr ⟨rfl,rfl⟩,λb z=>absurd z (l b),j.bs,j.uV,λb _ _=>l b,λb z=>absurd z (l b),j.iC,j.A8},
  rfl,j.bare,Un.kept hk,{_,x.toInCall.ns,λi y v B d J=>?_},λy c h=>{_,x.cell y c h},j.aI.fresh (Ob _),λy c h=>?_,λp o=>absurd (show p∈([]:List (Addr×Obj)) from o) (by simp),j.aI.kept hk,?_}
 .exact name_of_addr x.apart (PH B) (PH d)
 .have m:scope.names.lookup y=ρ .cell\/scope.names.lookup y=ρ .free:=m;rcases m with m |m
  .exact rB m
  .exact absurd rfl (S.CC _ (PH m))
 .exact Rw (x.above y c (PH h))
 .have hi:i<vs.9:=by
   unfold start at d
   by_cases hi:i<vs.9
   .exact hi
   .rw[P5 (by simpa using hi)]at d;rw[List.getElem?_replicate]at d;split at d<;>cases d
  have ha:vs[i]?=ρ v:=by
   unfold start at d;rw[Qe (by simpa using hi),OC]at d
   cases e:vs[i]? with
   |none=>rw[e]at d;cases d
   |some a=>rw[e]at d;cases d;rfl
  let{u,C,G}:=r.get ha
  have o:ps[i]?=ρ y:=by
   rw[<-S.pre,List.getElem?_take_of_lt ()];exact B
  have t:ps.Nodup:=by rw[<-S.pre];exact S.nd.sublist (List.take_sublist _ _)
  refine{u,G,?_};rcases S.par y (Ox o) with k |k
  .exact .inl {k,oJ t o C k}
  .let{c,e}:=rB (n:=s.8+1) k
   refine .inr {.inl k,c,e,?_};have q:=x.cell y c e;rw[oK t o C (by show scope.names.lookup y≠_;rw[k];decide)]at q;exact q
 .exact j.aI.fresh (Rw (x.above y c (PH h)))
 .unfold start;show _=N.9;rw[Oy,O5,RV]
  lia
theorem Cg{CX:we}{P:Om}{w:World}{K:O4}{mg:Str->Option Value}{base:Heap}{k:Nat}{f:Addr}{name g:Str}{l:Arguments}{body:List Stmt}{scope:Qr}{dV kV C pm j ct oc:Value}{an od:Option Addr}
 {T:Array (Option Value)} {N ps:List Str} {sp:Sp} (lk:K.lookup f=ρ {oc,od,.func (Qh name g l body scope dV kV C pm an j ct),T}) (U:RC K j g=true) (S:hG N ps scope)
 (len:∀vs H Q E,sp vs H Q E->vs.9=ps.9)
 (p:∀(A:Around) (outer:List Env) (s:Shared) (H:Hp) (vs:List V) (Q:VK) (E:XK),bA k (A.deeper (envOfC g scope s.heap.objs.size f j))->sp vs H Q E ->
   ∃t,q8 (mw CX P w K mg base N g scope f j A outer s H E) body t/\t (Ends.fn Q) (start N vs) H) :
 aH P w K mg base CX (k+1) f (Qh name g l body scope dV kV C pm an j ct) ps sp:=by
 refine{len,λA outer s H args O vs Q E z i R r m=>?_};have hl:=len _ _ _ _ m;have L:K.In s.heap:=i.mod.BU.keeps λb o e=>(i.bs b o e).1;have B:s.heap.NoLimit:=i.mod.nolimit.keeps λb o e=>(i.bs b o e).1
 have c:∀y∈ps.zip O,scope.names.lookup y.1=ρ .local\/(scope.names.lookup y.1=ρ .cell/\((RT (s.8+1) scope.names []).lookup y.1).isSome=true):=λ⟨n,v⟩ X=>by
  rcases S.par n (TN X).1 with q |q
  .exact .inl q
  .exact .inr {q,U2 _ _ _ (.inl q)}
 refine codeAny_call_function z.depth (L _ _ lk) rfl S.co S.gen rfl (PySem.W.codeRec_of L U) (R _ _ _ _ ?_);refine wpAny_newFunctionEnv_cells S.kind c λenv Y M x=>?_;subst Y;refine{B.keeps x.toInCall.keep,codeAny_func ?_}
 let{t,Z,hq}:=p A outer s H vs Q E (z.deeper _) m
 have I:Inv (mw CX P w K mg base N g scope f j A outer s H E) [] (start N vs) H M:=wx S z.hd i hl r x;refine OB (Z [] M (start N vs) H _ I hq) (λfl D d=>?_) λe D d=>d
 have fin:∀{a:St} {h:Hp} {v:V} {u:Value},Inv (mw CX P w K mg base N g scope f j A outer s H E) [] a h D->RelV v u->Q v h->CE outer P w H s Q u D:=
  λ{a h v u} J G q=>⟨v,h,J.os,J.bare,J.base,J.aI,G,q⟩
 cases fl with
 |ret u=>
  let{v,a,h,J,G,q}:=d
  exact fin J G q
 |next=>
  let{a,h,J,q}:=d
  exact fin (v:=V.non) (u:=Pm) J rfl q
 |brk=>
  let{_,_,_,q}:=d
  exact OI q
 |cont=>
  let{_,_,_,q}:=d
  exact OI q
theorem qh:cP X (.builtin "len") (λxs H Q=>∃p ys,xs=[.ref p]/\(aK X.K H p ys\/eI X.K H p ys)/\Q (.int ys.9) H):=by
 intro e s σ H xs i Q I r h
 let{p,ys,rfl,a,q}:=h
 let{u,rfl,f}:=vals1 r
 cases f;have hn:=jW;rcases a with a |a
 .let{c,d,pl,g}:=I.list a
  have b:=d.9;exact Calls.call_len_list pl.isList (by grind) {.int ys.9,H,I.tok _,{s.toks+1,by grind},q}
 .let{c,d,pl,g}:=I.tuple a
  have b:=d.9;exact len_tuple pl (by grind) {.int ys.9,H,I.tok _,{s.toks+1,by grind},q}
theorem qi:cP X (.builtin "len") (λxs H Q=>∃z,xs=[.str z]/\z.9<=sizeLine/\Q (.int z.9) H):=by
 intro a s σ H xs b Q I r h
 let{z,rfl,c,q}:=h
 let{u,rfl,t,rfl}:=vals1 r
 have hn:=jW;exact len_str () {.int z.9,H,I.tok _,{_,rfl},q}
theorem qj:cP X (.type "list") (λxs H Q=>∃p ys,xs=[.ref p]/\(aK X.K H p ys\/eI X.K H p ys)/\∀l,H l=τ->Q (.ref l) (upd H l (.lst ys))):=by
 intro g s σ H xs x Q I r h
 let{p,ys,rfl,i,q}:=h
 let{u,rfl,v}:=vals1 r
 cases v
 have fin:∀(a:List Value),Vals ys a->ys.9<=sizeLine->∀(c:Heap) (d:Nat),(∀b t,s.heap.get? b=ρ t->c.get? b=ρ t) ->
  c.get? s.8=ρ {cls:=.type "list",dict:=τ,data:=.seq a.toArray d,slots:=#[]}->EP X g σ Q (.ref s.8) {s with heap:=c}:=λa f j c d kp e=>
  {.ref s.8,_,I.laid (t':=s.toks) kp (Ob _) (show b6 X.prog X.w _ c _ (.lst ys) from ⟨j,a,d,f,e⟩),rfl,q _ (I.aI.fresh (Ob _))}
 rcases i with i |i
 .let{a,f,pl,j}:=I.list i
  have k:=f.9
  let{o,m,hc,n,hd}:=pl.isList
  exact call_list_seq p (.inl rfl) m hc hd (λc d kp e=>fin a f j c d kp e) (by grind)
 .let{a,f,pl,j}:=I.tuple i
  have k:=f.9
  let{o,m,hc,n,hd}:=pl
  exact call_list_seq p (.inr rfl) m hc hd (λc d kp e=>fin a f j c d kp e) (by grind)
theorem a7.refl(H:Hp):a7 H H:=λ_ _ h=>h
theorem wy:D3 X "dict.values" (λx xs H Q=>∃d kvs,x=.ref d/\xs=[]/\H d=ρ (.dK kvs)/\∀v,H v=τ->Q (.ref v) (upd H v (rE v d))):=by
 intro a s σ H x xs v j Q I f g h
 let{d,kvs,rfl,rfl,hd,q}:=h
 cases f;have:=g.zero;subst this
 let{l,lo,i,rel,c}:=pa I.aI hd
 refine call_meetsIn To c.typeIs PySem.F.entry_dict_values (PySem.F.args_dict_values_1 _) (meets_dict_values (aR X.prog X.w) d lo) {⟨i,c⟩,?_};refine{.ref s.8,_,I.laid (t':=s.toks) (o:=rE s.heap.objs.size d) (λb o e=>O9 _ e) (Ob _) {{_,Oq _ rfl,rfl,rfl},{_,Oq _ rfl},λm n ⟨o,e,r⟩ k=>{o,k o e,r}},rfl,q _ (I.aI.fresh (Ob _))}
theorem vq:D3 X "str.join" (λx xs H Q=>∃z p g,x=.str z/\xs=[.ref p]/\aK X.K H p (Sy V.str g)/\(g.map (·.9)).sum+g.9*z.9<=16777216/\Q (.str (Tp z g)) H):=by
 intro a s σ H x xs v m Q I b c h
 let{z,p,g,rfl,rfl,d,e,q}:=h
 let{t,rfl}:=b
 let{u,rfl,f}:=c.one
 cases f
 let{i,j,pl,_}:=I.list d
 exact join_list pl.isList (by simpa using tP j) e λl k=>{.str _,H,I.tok k,⟨l,rfl⟩,q}
theorem rW:cP X (.builtin "len") (λxs H Q=>∃p n,xs=[.ref p]/\H p=ρ (Aq X.prog X.w p n)/\Q (.int n) H):=by
 intro c s σ H xs g Q I r h
 let{p,n,rfl,d,q}:=h
 let{u,rfl,f}:=vals1 r
 cases f
 let{{S,o,i,j,k,e,hex,hd,_,_,b,a,hn},_}:=(show b6 X.prog X.w H s.heap p (Aq X.prog X.w p n) from I.aI p _ d)
 refine call_len_set e hex hd a (by unfold R7 at b;omega) {.int n,H,I.tok _,{s.toks+1,?_},q};rw[hn]
theorem comp_map{Ok:Hp->Prop}{Q:Hp->Prop}(g:V->V)(C:pV J Ok xs)(hl:H l=τ)(I:xs.9<=sizeLine)(r:∀j,a7 H j->Ok j)
 (he:∀x o p,x∈xs->a7 H o->(∀j,a7 o j->p (g x) j)->T (ρ x::t) o p)
 (hd:∀j,a7 H j->j l=ρ (.lst (xs.map g))->Q j):j2 J l t y2 T H Q:=
 hK (λ_=>true) g C hl I r (λx o p _ _ q=>q o (a7.refl _)) (λx o p hx _ s q=>he x o p hx s q) (λj s h=>hd j s (by rw[h,UL.mpr (λ_ _=>rfl)]))
theorem AB:Ge X .Add (λx y H Q=>∃i j,x=.str i/\y=.str j/\i.9+j.9<=sizeLine/\Q (.str (i++j)) H):=λa s σ H x y v u Q I b c h=>rV a s σ H x y v u Q I b c h
theorem yB{K:O4}{j l:Expr}{g:TE}(o:X.K=K)(hl:PE X l g):PI X j l (BZ K g):=by
 subst o;exact bP hl
end
section
variable{X:Cx}{e:Expr}{te:TE}{lo hi:Option Expr}{tl th:TO}{pos p2:Pos}
theorem cG(hc:X.calm=true)(h:Gd X g t)
 (hn:(Rk g X.5).9=n:=by rfl) (j:(Rk g X.5).findIdx? (·.1)=τ:=by rfl):PG X (.Tuple g k pos) (GP X.K n t):=by
 refine{?_};intro c s σ H v u Q I r hw
 let{a,f,i,l,hl,hw}:=hw
 subst i;cases r
 let{m,d,p,x}:=I.tuple l
 refine assign_Tuple_tuple (I.ok.hd hc) p (by simp[hn,<-hl,d.9]) j λq hx=>?_;have w:Inv X c σ H {s with heap:=q}:=I.kept (t':=s.toks) λb o e=>hx b o (Oe (Oa e)) e;exact h c _ σ H f _ Q w (by simpa using d) hw
def HH(X:Cx)(r:V->Option Int->Option Int->Hp->VK->Prop):Prop:=
 ∀(pins:List (Addr×Obj)) (s:Shared) (σ:St) (H:Hp) (x:V) (v vl vu:Value) (lo hi:Option Int) (sl:Addr) (Q:VK),Inv X pins σ H s->RelV x v->s.heap.IsSliceOf sl vl vu .none->IsPart vl lo->IsPart vu hi->r x lo hi H Q ->
  ∃T id,Te (.type T) "__getitem__"=pure (ρ (.builtin id))/\s.TypeIs v T/\wpAny (model X.prog X.w) X.A (getItem v (.ref sl)) (EP X pins σ Q) X.xe s
theorem cH{r:V->Option Int->Option Int->Hp->VK->Prop}(j:HH X r)(he:PE X e te)(hl:PO X lo tl)(o:PO X hi th):PE X (.Subscript e (.Slice lo hi τ p2) pos) (KQ r te tl th):=by
 refine{?_};intro a s σ H Q I h;refine Uu (bb (he a s σ H _ I h) λv i ⟨x,k,m,n,p⟩=>?_);refine wpAny_Slice (bb (hl a i σ k _ m p) λd t ⟨l,y,z,pl,B⟩=>bb (o a t σ y _ z B) λf c ⟨u,g,C,D,E⟩=>?_);rw[evalPart_none];refine Oo ?_;have G:Inv X a σ g {c with heap:=c.heap.push {cls:=.type "slice",data:=.fields #[d,f,.none]}}:=C.kept (t':=c.toks) λb ob q=>O9 _ q
 let{T,id,J,L,M}:=j a {c with heap:=c.heap.push {cls:=.type "slice",data:=.fields #[d,f,.none]}} σ g x v d f l u c.heap.objs.size Q G n (Heap.IsSliceOf.new ..) pl D E
 show wpAny (model X.prog X.w) X.A (UD e (.Slice lo hi τ p2) v (.ref c.8)) (EP X a σ Q) X.xe {c with heap:=c.heap.push {cls:=.type "slice",data:=.fields #[d,f,.none]}};exact tail_any (ops:=[.ref c.8,v]) L J M (by with_unfolding_all rfl)
theorem gv:PE X (.Dict [] [] pos) CG:={λb s σ H Q I h=>
 wpAny_Dict_empty {.ref s.8,_,I.laid (a:=s.8) (o:=.dK []) (t':=s.toks) (λ_ _ q=>O9 _ q) (Ob _) (rJ s.heap I.big),rfl,h _ (I.aI.fresh (Ob _))}}
end
section
variable{X:Cx}{es:List Expr}{t:TA}{pos:Pos}
theorem gw{g}(h:PA X es t):PE X (.Tuple es g pos) (GW t):=by
 refine{?_};intro a s σ H Q I i;refine wpAny_Tuple_spliced (bb (h pos a s σ H _ I i) λj c ⟨k,d,f,r,z,q⟩=>{by rw[<-r.9];exact z,?_});have l:d c.8=τ:=f.aI.fresh (Ob _);refine{.ref c.8,upd d c.heap.objs.size (.tup k),f.laid (t':=c.toks) (λb u e=>O9 _ e) (Ob _) ?_,rfl,q _ l};exact{z,j,r,{_,Oq _ rfl,rfl,1}}
theorem fz(h:PA X es t):PE X (.List es pos) (GX t):=by
 refine{?_};intro a s σ H Q I g;refine wpAny_List_spliced (bb (h pos a s σ H _ I g) λi c ⟨j,d,f,r,z,q⟩=>{by rw[<-r.9];exact z,?_});have k:d c.8=τ:=f.aI.fresh (Ob _);refine{.ref c.8,upd d c.heap.objs.size (.lst j),f.laid (t':=c.toks) (λb u e=>O9 _ e) (Ob _) ?_,rfl,q _ k};exact⟨z,i,0,r,Oq _ rfl⟩
theorem k8:HH X (λx lo hi H Q=>∃z,x=.str z/\z.9<=sizeLine/\Q (.str (OQ z lo hi)) H):=by
 intro a s σ H x v p r lo hi sl Q I m n pl f h
 let{z,rfl,b,q}:=h
 let{t,rfl}:=m
 refine{"str",_,Tn.lookup,R6 s z t,?_};have fin:∀d k,EP X a σ Q (.str (OQ z lo hi) d) {s with toks:=k}:=λd k=>{.str _,H,I.tok k,⟨d,rfl⟩,q}
 let{o,c,hc,hd}:=n
 cases pl with
 |none=>cases f with
  |none=>exact QT (l:=τ) (u:=τ) (st:=τ) ⟨o,c,hc,hd⟩ rfl (S5 {Od (Ri z _ _) b,fin})
  |int j e=>exact QT (l:=τ) (u:=ρ (j,e)) (st:=τ) ⟨o,c,hc,hd⟩ rfl (S5 {Od (Ri z _ _) b,fin})
 |int i g=>cases f with
  |none=>exact QT (l:=ρ (i,g)) (u:=τ) (st:=τ) ⟨o,c,hc,hd⟩ rfl (S5 {Od (Ri z _ _) b,fin})
  |int j e=>exact QT (l:=ρ (i,g)) (u:=ρ (j,e)) (st:=τ) ⟨o,c,hc,hd⟩ rfl (S5 {Od (Ri z _ _) b,fin})
end
section
variable{X:Cx}{pins:List (Addr×Obj)}{σ:St}{H:Hp}{s:Shared}{l:Addr}{xs ys:List V}
theorem Inv.F7(I:Inv X pins σ H s)(j:Vals ys g)(o:ys.9<=sizeLine) :
 Inv X pins σ (upd H s.heap.objs.size (.lst ys)) {s with heap:=s.heap.push {cls:=.type "list",data:=.seq g.6},toks:=t'}:=
 I.laid (λ_ _ q=>O9 _ q) (Ob _) ⟨o,g,0,j,Oq _ rfl⟩
theorem Inv.yC(I:Inv X pins σ H s)(j:H l=ρ (.lst xs)):xs.9<=sizeLine/\∃(g:List Value) (n:Nat),Vals xs g/\xs.9=g.9/\s.heap.get? l=ρ {cls:=.type "list",data:=.seq g.toArray n}:=by
 let{z,g,n,r,e}:=I.aI l _ j
 exact⟨z,g,n,r,r.9,e⟩
theorem Dd:ie X (binaryOp .Add) GV:=by
 intro d s σ H x y v u Q I f g h
 let{l,b,t,w,rfl,rfl,i,j,A,q}:=h
 cases f;cases g
 let{z,c,n,r,hl,e}:=I.yC i
 let{B,a,C,k,m,o}:=I.yC j
 refine PySem.P.add_list e o ?_ (by rw[OO,OO];omega);have p:c.6++a.6=(c++a).6:=by simp
 rw[p];exact{.ref _,_,I.F7 (t':=s.toks) (r.append k) (by rw[Oy];omega),rfl,q _ I.fresh}
end
section
variable{P:Om}{w:World}{K:O4}{mg:Str->Option Value}{base:Heap}
theorem oO.ok{x g:Str}{st:Stmt}{f:Addr}{fd:P0}{N ps:List Str}{k:Nat}{sp:Sp}(F:oO K x g st f fd)(S:hG N ps (ak st))(len:∀vs H Q E,sp vs H Q E->vs.9=ps.9)
 (l:∀(j:Value) (A:Around) (outer:List Env) (s:Shared) (H:Hp) (vs:List V) (Q:VK) (E:XK),bA k (A.deeper (envOfC g (ak st) s.heap.objs.size f j))->sp vs H Q E ->
   ∃t,q8 (mw dk P w K mg base N g (ak st) f j A outer s H E).BW (bc st) t/\t (Ends.fn Q) (start N vs) H):aH P w K mg base dk (k+1) f fd ps sp:=by
 let{i,m,kV,c,pm,n,j,ct,d,rfl,lk,a}:=F.ex
 refine Cg lk a S len λA outer s H vs Q E e b=>?_
 let{t,h,q}:=l j A outer s H vs Q E e b
 exact⟨t,h.BW,q⟩
theorem pf(d:Addr)(o:Obj)(kvs:List (Key×V)):pV (EE d o kvs) (λH=>H d=ρ (.frz o (.dK kvs))) (kvs.map λg=>kV g.1) where
 go:=λi H ok h=>{ok,by rwa[O5]at h}
 tJ:=λi H x a ok h q=>by
  let{rfl,g,e,rfl}:=q
  refine{rfl,?_};rw[OC,e];rfl
 stop:=λH ok=>{ok,by rw[O5];exact Ob _}
end
section
variable{X:Cx}{tg:Expr}
theorem ub{P:Om}{w:World}{K:O4}{U:Expr}{it:Addr}{n:Nat}{Pv:Nat->Value->Prop}{St:Nat->Heap->Prop}{val:Nat->V}
 (T:∀A:Around,A.handled=τ->Walks P w A it [it] [it] n Pv St)
 (g:∀i h,St i h->∃(o:Obj) (nm:String) (vs:Array Value),h.get? it=ρ o/\o.cls=.type nm/\o.data=.fields vs/\C3 nm)
 (j:∀i h h',St i h->(∀o,h.get? it=ρ o->h'.get? it=ρ o)->St i h')
 (l:∀(A:Around) (i:Nat) (s:Shared) (Q:Value->Shared->Prop) (E:Value->Shared->Prop),St i s.heap->Q (.ref it) s->wpAny (model P w) A (pyIter (.ref it)) Q E s)
 (p:∀i u,Pv i u->RelV (val i) u):Turn P w K U (Ga n val) [it] it (λi h=>St i h/\i<=n) where
 mem:=by simp
 obj:=λi h st b f=>by
  have e:b=it:=by simpa using f
  subst e
  let{o,nm,vs,e,c,d,_}:=g i h st.1
  exact{o,e,λv z=>by rw[d]at z;cases z}
 keep:=λi h h' st k=>{j i h h' st.1 λo e=>k it (by simp) o e,st.2}
 item:=by
  intro X t hw x hc i a s σ H E I q st r;subst t hw x
  let{y,f1,f2,B,C,D}:=q it (by simp)
  refine(T X.A (I.ok.hd hc)).item i s _ _ r st.1 λv h' G L m J=>?_;have M:Inv X a σ H {s with heap:=h',toks:=G}:=I.turned (λb o f e=>J b o (by simpa using f) e) y f1 B C D
  let{o,nm,vs,e,c,d,hn}:=g _ _ m
  exact{1,uW (s:={s with heap:=h',toks:=G}) e c d hn {val i,H,M,p i v L,⟨rfl,rfl⟩,⟨m,r⟩,λb f=>(q b f).1}}
 done:=by
   intro X t hw x hc i a s σ H E I q st r;subst t hw x
   let{y,f1,f2,B,C,D}:=q it (by simp)
   have e:i=n:=by
    have N:=st.2;have O:n<=i:=r
    lia
   subst e;exact(T X.A (I.ok.hd hc)).done s _ _ st.1 λh' G J=>{rfl,I.turned (λb o f e=>J b o (by simpa using f) e) y f1 B C D}
 self:=λA i s Q E st h=>l A i s Q E st.1 h
theorem gx{l:Expr}{C:TE}(hl:PE X l C):PI X tg l (EA C):=by
 refine{?_};intro f s σ H R I h;refine bb (hl f s σ H _ I h) λv a ⟨x,B,n,D,G⟩=>?_
 let{z,e,q}:=G
 subst e
 let{t,rfl}:=D
 have fin:∀(j:String) (o:Obj),(∀m:Around,m.handled=τ->Walks X.prog X.w m a.heap.objs.size [a.8] [a.8] z.cps.size (SignAt z) (λi h=>h.IsStrIter a.heap.objs.size j z t i)) ->
  (∀(A:Around) (i:Nat) (s:Shared) (Q:Value->Shared->Prop) (E:Value->Shared->Prop),s.heap.IsStrIter a.heap.objs.size j z t i->Q (.ref a.8) s->wpAny (model X.prog X.w) A (pyIter (.ref a.8)) Q E s) ->
  C3 j->(a.heap.push o).IsStrIter a.heap.objs.size j z t 0->EV X f σ tg R (.ref a.8) {a with heap:=a.heap.push o}:=by
  intro j o J g p r
  refine{a.8,[a.8],_,_,B,rfl,n.kept (t':=a.toks) λb o e=>O9 _ e,
   ub (val:=oP z) J (λi h st=>?_) (λi h O st k=>?_) g (λi u L=>?_),{r,OZ _},λb M=>?_,q}
  .let{o,e,c,d}:=st
   exact{o,j,_,e,c,d,p}
  .let{o,e,c,d}:=st
   exact{o,k o e,c,d}
  .let{c,N,hc,e}:=L
   refine{N,?_};rw[e,Qx,hc];rfl
  .have e:b=a.8:=by simpa using M
   subst e;exact n.wt (Ob _) (n.aI.fresh (Ob _))
 cases ha:z.cps.all (· < 128)
 .exact wpAny_pyIter_wide ha (fin "str_iterator" _ (λm y=>Walks.strWide y _ z t) (λA i s Q E st h=>wpAny_pyIter_striter_wide st h) ⋯ {_,Oq _ rfl,rfl,rfl})
 .exact wpAny_pyIter_ascii ha (fin "str_ascii_iterator" _ (λm y=>Walks.strAscii y _ z t) (λA i s Q E st h=>wpAny_pyIter_striter_ascii st h) ⋯ {_,Oq _ rfl,rfl,rfl})
theorem my(hc:X.calm=true):cP X (.builtin "any") (λxs H Q=>∃p bs,xs=[.ref p]/\aK X.K H p (Sy V.bl bs)/\Q (.bl (bs.any id)) H):=by
 intro d s σ H xs o Q I r h
 let{p,bs,rfl,j,q}:=h
 let{u,rfl,k}:=vals1 r
 cases k
 let{a,l,pl,t}:=I.list j
 have f:=kG l;have hl:=pl.isList;have m:=I.ok.hd hc;have c:p<s.8:=by let{_,e,_}:=hl;exact Oa e
 refine call_any_walk (T5 hl ?_)
 refine{s.8,[s.8,p],[s.8],a.toArray.size,_,_,λi=>(bs[i]?).getD false,rfl,Walks.list (A:=X.A.in1) m _ p (Oe c) a.6,
  {{_,Oq _ rfl,rfl,rfl},hl.push _},λi v w x y n g=>?_,λz B hk=>?_}
 .let{b,e,rfl}:=f.get i v (by simpa using n)
  simp only[e,VC]at g;exact Ql g
 .have e:((PL a.toArray.size).any λi=>(bs[i]?).getD false)=bs.any id:=by
   rw[OO,f.9];exact LSm.range_any bs
  rw[e];exact{.bl _,H,I.kept (LSm.kept_iter hk),rfl,q}
theorem mz(hc:X.calm=true):cP X (.builtin "all") (λxs H Q=>∃p bs,xs=[.ref p]/\aK X.K H p (Sy V.bl bs)/\Q (.bl (bs.all id)) H):=by
 intro d s σ H xs o Q I r h
 let{p,bs,rfl,j,q}:=h
 let{u,rfl,k}:=vals1 r
 cases k
 let{a,l,pl,t}:=I.list j
 have f:=kG l;have hl:=pl.isList;have m:=I.ok.hd hc;have c:p<s.8:=by let{_,e,_}:=hl;exact Oa e
 refine call_all_walk (T5 hl ?_)
 refine{s.8,[s.8,p],[s.8],a.toArray.size,_,_,λi=>(bs[i]?).getD true,rfl,Walks.list (A:=X.A.in1) m _ p (Oe c) a.6,
  {{_,Oq _ rfl,rfl,rfl},hl.push _},λi v w x y n g=>?_,λz B hk=>?_}
 .let{b,e,rfl}:=f.get i v (by simpa using n)
  simp only[e,VC]at g;exact Ql g
 .have e:((PL a.toArray.size).all λi=>(bs[i]?).getD true)=bs.all id:=by
   rw[OO,f.9];exact LSm.range_all bs
  rw[e];exact{.bl _,H,I.kept (LSm.kept_iter hk),rfl,q}
theorem qk(hc:X.calm=true):cP X (.builtin "sorted") (λxs H Q=>∃d kvs g,xs=[.ref d]/\H d=ρ (.dK kvs)/\kvs.map (·.1)=Sy (Ou:Str->Key) g/\g.9<64 /\
 ∀l ss,H l=τ->ss.Perm g->Tz ss=true->Q (.ref l) (upd H l (.lst (ss.map V.str)))):=by
 intro k s σ H xs Y Q I r h
 let{d,kvs,g,rfl,hd,hk,v,q}:=h
 let{u,rfl,N}:=vals1 r
 cases N
 let{D,lo,x,rel,O}:=pa I.aI hd
 let{ep,y}:=O.dictAt
 have R:=I.ok.hd hc;have n:kvs.9=g.9:=by have:=congrArg Rp hk;simpa using this
 have hn:x.9<=sizeLine:=by rw[<-rel.9];exact D
 refine Calls.call_function_entry kind_sorted plain_sorted entry_sorted (args_sorted1 _) ?_;unfold RQ.«sorted»;refine O6 (m:=checkCount "sorted" 1 1 _) (Oo ?_);refine O6 (PySem.W.kdu_collect (A:=X.A.in1) (VD (knd:=aR X.prog X.w) (kvs:=x) (ep:=ep) lo) R y hn λi E a z c=>?_);have hl:a.toList.9=x.9:=by rw[QQ];exact c.1
 refine O6 (wpAny_newList ?_ (by rw[hl];exact hn));have B:StrsAre a.toList g:=yi (P:=X.prog) (w:=X.w) hk rel hl λj u e=>c.2 j u (by rw[<-QD];exact e);have f:(i.push (seqObj "list" a.toList.toArray 0)).get? i.7=ρ (seqObj "list" a.toList.toArray 0):=Oq _ rfl;have p:a.toList.9<64:=by rw[hl,<-rel.9,n];exact v
 refine O6 (Qq (wpAny_call_entry slot_list_sort {_,f,rfl} entry_list_sort (list_sort_treeK strKind_oneLt f B.keysOf (λG J rest e=>keyKind_strs (by rw[<-e];exact B)) p λC a1 a2=>{1,?_}) (args_list_sort _)))
 let{t,S,L,T}:=sorted_out_str B a1 a2
 have M:Inv X k σ H {s with heap:=i,toks:=E}:=I.kept z
 let{e,U}:=sortedHeap_at (out:=(arrOf C).map (·.2)) f
 refine Oo {1,{.ref i.7,upd H i.objs.size (.lst (t.map V.str)),M.laid (t':=E) (λb o q=>?_) (Ob _) {?_,_,e,oQ S,?_},rfl,q _ t (M.aI.fresh (Ob _)) L T}}
 .have lt:b<i.7:=Oa q;rw[sortedHeap_old (Oe lt) (by rw[size_push'];exact T6 lt)];exact O9 _ q
 .rw[O5,L.length_eq,<-n];exact D
 .rw[S6];exact U
theorem mB(hc:X.calm=true):cP X (.type "list") (λxs H Q=>∃d kvs,xs=[.ref d]/\H d=ρ (.dK kvs)/\∀l,H l=τ->Q (.ref l) (upd H l (.lst (kvs.map λg=>kV g.1)))):=by
 intro k s σ H xs y Q I r h
 let{d,kvs,rfl,hd,q}:=h
 let{u,rfl,n}:=vals1 r
 cases n
 let{m,lo,f,rel,o}:=pa I.aI hd
 let{ep,i}:=o.dictAt
 have p:=I.ok.hd hc;have hn:f.9<=sizeLine:=by rw[<-rel.9];exact m
 refine VE (VD (knd:=aR X.prog X.w) (kvs:=f) (ep:=ep) lo) p i hn λt v b c kp x a=>?_;have hl:b.toList.9=f.9:=by rw[QQ];exact a.1
 refine{.ref s.8,_,I.laid (t':=v) kp (Ob _) (show b6 X.prog X.w _ t _ (.lst (kvs.map λg=>kV g.1)) from {?_,b.toList,c,oU (P:=X.prog) (w:=X.w) rel hl λj u e=>a.2 j u (by rw[<-QD];exact e),?_}),rfl,q _ (I.aI.fresh (Ob _))}
 .rw[O5];exact m
 .rw[S6];exact x
theorem uc(hc:X.calm=true):cP X (.type "list") (λxs H Q=>∃v d kvs,xs=[.ref v]/\H v=ρ (rE v d)/\H d=ρ (.dK kvs)/\∀l,H l=τ->Q (.ref l) (upd H l (.lst (kvs.map (·.2))))):=by
 intro k s σ H xs D Q I r h
 let{v,d,kvs,rfl,n,hd,q}:=h
 let{u,rfl,o}:=vals1 r
 cases o
 let{m,lo,b,rel,p}:=pa I.aI hd
 let{ep,i}:=p.dictAt
 let{g,_}:=(show b6 X.prog X.w H s.heap v (rE v d) from I.aI v _ n)
 have x:=I.ok.hd hc;have hn:b.9<=sizeLine:=by rw[<-rel.9];exact m
 refine VE (PySem.W.kdl_values (knd:=aR X.prog X.w) (kvs:=b) (ep:=ep)) x ⟨g,i⟩ hn λy z a c kp A f=>?_;have hl:a.toList.9=b.9:=by rw[QQ];exact f.1
 have e:a.toList=b.map (·.2):=PySem.W.kdl_vals_eq a.toList hl λj u e=>f.2 j u (by rw[<-QD];exact e)
 have B:∀{kvs:List (Key×V)} {b:List (Key×Value)},KV kvs b->Vals (kvs.map (·.2)) (b.map (·.2)):=λ{kvs b} r=>by
  induction r with
  |nil=>exact .nil
  |cons r t C=>exact .cons r.2 C
 refine{.ref s.8,_,I.laid (t':=z) kp (Ob _) (show b6 X.prog X.w _ y _ (.lst (kvs.map (·.2))) from {?_,a.toList,c,by rw[e];exact B rel,?_}),rfl,q _ (I.aI.fresh (Ob _))}
 .rw[O5];exact m
 .rw[S6];exact A
theorem wz{P:Om}{w:World}{K:O4}{g:List Expr}{k:Nat}{pos:Pos}(a e it:Addr)(j:e≠it):Turn P w K (.Tuple g k pos) (EC K a) [e,it] e (λi h=>(∃old,IsEnum h e it (i:Nat) old)/\h.IsListIter it a i) where
 mem:=by simp
 obj:=λi h st b f=>by
  let{{old,c},o,t,hc,hd}:=st
  rcases Oi.mp f with rfl |f
  .exact{_,c,λv z=>by
    have O:Vy _=VZ v:=z
    cases O}
  .have Q:b=it:=by simpa using f
   subst Q;exact{o,t,λv z=>by rw[hd]at z;cases z}
 keep:=λi h N st k=>{st.1.imp λold c=>k e (by simp) _ c,st.2.at λo q=>k it (by simp) o q}
 item:=by
  intro X A hw B hc i l s σ H E I C st D;subst A hw B
  let{R,x,r,hx}:=D
  let{G,J,p,S}:=I.list r
  let{u,T,U}:=J.get hx
  let{{old,c},hit}:=st
  refine wpAny_pyNext_enum_item c hit p.isList (x:=u) (by simpa using T) j λN t m V Y hk=>?_;refine{1,SX t λZ L d=>?_}
  let{_,M,_}:=id hit
  have n:e<s.8:=Oa c
  let{fr,I1,hn}:=rR (y:=.int (i:Nat)) (s.toks+1) I C (λb o h q=>(d.2 b (wg h).1).trans (hk b o (wg h).1 (wg h).2 q)) ((d.2 _ (Py n)).trans V) {_,rfl} U (Es n (Oa M))
  exact{.ref s.8,_,I1,rfl,{s.8,x,fr,rfl,rfl,λys hy=>by rw[I.rP hy r];exact hx},{{u,by simpa using L},m.at λo q=>(d.2 it (Pz j)).trans q},hn}
 done:=by
   intro X A hw B hc i l s σ H E I C st D;subst A hw B
   let{R,r,hx}:=D
   let{G,J,p,S}:=I.list r
   have hl:=J.9
   let{{old,c},hit}:=st
   let{g0,g1,g2,g3,g4,g5}:=C it (by simp)
   exact wpAny_pyNext_enum_end (I.ok.hd hc) c hit p.isList (Array.getElem?_eq_none (by simp;lia)) λN eb=>{rfl,I.turned (t':=s.toks) (λb o f e=>eb b o f e) g0 g1 g3 g4 g5}
 self:=λ_ _ _ _ _ st h=>let ⟨⟨_,c⟩,_⟩:=st;RJ c h
theorem AD{g:List Expr}{k:Nat}{j:Pos}{l:Expr}{o:TA}{p pos:Pos}(r:Gl X "enumerate")(t:X.mg "enumerate"=τ)(ha:PA X [l] o)(C:starEach [l] X.5=[(false,eval l X.5)]:=by rfl) :
 PI X (.Tuple g k j) (.Call (.Name "enumerate" p) [l] [] pos) (ED X.K o):=by
 refine{?_};intro c s σ H R I h;refine Call_ (iI I r t fM (Q6 (bb (ha pos c s σ H _ I h) λE d ⟨G,m,i,v,w⟩=>?_) C rfl))
 let{a,J,e,x,q}:=w
 subst e
 let{u,rfl,y}:=vals1 v
 cases y
 let{z,L,pl,M}:=i.list x
 refine call_enumerate_list pl.isList λA n hit B kp=>RJ n ?_;have D:Inv X c σ m {d with heap:=A}:=i.kept (t':=d.toks) kp;refine{d.8+1,[d.8+1,d.8],_,_,m,rfl,D,wz a _ _ (Py (Qt _)),{{_,n},hit},λb N=>?_,q}
 have f:d.8<=b:=by
  grind
 exact i.wt f (i.aI.fresh f)
theorem vr:ie X (binaryOp .Mult) (λx y H Q=>∃z n,x=.str z/\y=.int n/\MulOk z n/\Q (.str (QM z n)) H):=by
 intro a s σ H x y v u Q I b c h
 let{z,n,rfl,rfl,ok,q}:=h
 let{t,rfl}:=b
 let{d,rfl}:=c
 exact SB.mul ok λt2 k=>{.str _,H,I.tok k,⟨t2,rfl⟩,q}
theorem rX(hc:X.calm=true):cP X (.builtin "sum") (λxs H Q=>∃p ns,xs=[.ref p]/\aK X.K H p (Sy V.int ns)/\Q (.int ns.sum) H):=by
 intro b s σ H xs j Q I r h
 let{p,ns,rfl,d,q}:=h
 let{u,rfl,f}:=vals1 r
 cases f
 let{a,g,pl,k}:=I.list d
 let{c,e,rfl}:=md g
 have hl:s.heap.IsList p (intItems c.6):=by
  have:intItems c.6=a.6:=by rw[e];unfold intItems;simp
  rw[this];exact pl.isList
 refine sum_intListG (I.ok.hd hc) hl λl m i hk=>?_;refine{.int _,H,I.kept hk,{i,?_},q};rw[preSum_eq,Rc (by simp)]
end
section
variable{X:Cx}{pins:List (Addr×Obj)}{σ:St}{H:Hp}{s:Shared}{e:Addr}
theorem ud{M:TK}{A:Around}{E:Value->Shared->Prop}{i:Nat}{x:Str}{v:V}{u:Value}{m:Str->Option Value}{Q:Unit->Shared->Prop}(I:Inv X pins σ H s)(hn:s.heap.Ns X.env.locals m)(T:X.N.Nodup)(hi:X.N[i]?=ρ x)(hk:X.env.scope.names.lookup x=ρ .local)(r:RelV v u)
 (h:∀s',Inv X pins (σ.set i (ρ v)) H s'->s'.heap.Ns X.env.locals (λy=>if y=x then ρ u else m y)->s'.toks=s.toks+1->Q .unit s'):wpAny M A (V8 X.env x u) Q E s:=by
 let{m0,C,hl}:=id I.loc
 have e:=vi hn C;subst e;have l:(X.env.scope.kind == .class ||(X.env.scope.kind == .module&&X.env.locals != X.env.globals))=false:=by rw[I.ok.kind];rfl
 have hiσ:i<σ.9:=by rw[I.len];exact(O8.mp hi).1
 have tY:=I.tY;refine Ue hk hn (λL t g=>?_) l
 let{oL,_,_,O,_}:=id hn
 have a:fw X.prog X.w H L:=λb ob e=>by
  refine(I.aI b ob e).iJ (λc J hc q=>(g.2 c ?_).trans q) (λ_ q=>q) λ_ _ q=>q;rintro rfl;rcases hc with z |hc
  .rw[<-z,I.free]at e;cases e
  .rw[I.free]at hc;cases hc
 refine h _ {I.ok,I.os,I.bare,{λb o e n D hx=>?_,λb o e n D hx=>?_,I.base.free,λb o e hx=>?_,I.base.iZ,I.base.iB,I.base.j0},{_,t,λj y R f B S=>?_},λy c e=>?_,I.free,I.da,λp U=>?_,a,by simpa using I.len} t rfl
 .exact(g.2 b (Oe (O7 (Oa e) I.ok.above))).trans (I.base.keep b o e n D hx)
 .let{sl,f}:=I.base.slot b o e n D hx
  exact{sl,(g.2 b (Oe (O7 (Oa e) I.ok.above))).trans f}
 .let{Y,f}:=I.base.there b o e hx
  exact{Y,(g.2 b (Oe (O7 (Oa e) I.ok.above))).trans f}
 .by_cases G:j=i
  .subst G;rw[hi]at f;cases f;rw[Qu hiσ]at B;cases B;exact{u,r,.inl {hk,by simp}}
  .rw[PZ (Pz G)]at B
   let{Z,r',q}:=hl j y R f B S
   refine{Z,r',?_};rcases q with⟨k,e⟩ |⟨k,c,e,z⟩
   .refine .inl {k,?_};have:y≠x:=λe=>G (j1 T f (e ▸ hi));simp[this,e]
   .exact .inr {k,c,e,z.sameBut g (tY y c e)}
 .let{J,z}:=I.cell y c e
  exact{J,z.sameBut g (tY y c e)}
 .let{e,n,ne,nf,d}:=I.pin p U
  exact{(g.2 p.1 ne).trans e,n,ne,nf,d}
theorem wA{a b c:Nat}{pl sg fd C:Str}{idx:Expr}{ti:TE}{j:Nat}{p1 p2 p3 p4 p5 p6 p7 p8 p9 L0 g U o p r L1:Pos}(hN:X.N.Nodup)(ha:X.N[a]?=ρ pl)(hb:X.N[b]?=ρ sg)(hc:X.N[c]?=ρ fd)
 (la:X.env.scope.names.lookup pl=ρ .local) (lb:X.env.scope.names.lookup sg=ρ .local) (lc:X.env.scope.names.lookup fd=ρ .local) (HI:PE X idx ti) (hz:C.9=0) (L4:vc idx)
 (L5:a≠b:=by decide) (L6:a≠c:=by decide) (L7:b≠c:=by decide) (N1:¬pl=sg:=by decide) (L8:¬sg=fd:=by decide) (N2:¬pl=fd:=by decide)
 (Js:(pl==("__debug__":Str))=false:=by decide) (L9:(pl==("__classdict__":Str))=false:=by decide) (Jt:(sg==("__debug__":Str))=false:=by decide) (La:(fd==("__debug__":Str))=false:=by decide)
 (Lb:QK (.Subscript (.Name pl p2) idx p3) (ρ (.Name sg p1)) p4.line X.5=pure false:=by rfl)
 (J:QX (.Name pl g) "replace" X.env (eval (.Name pl g) X.5)=eval (.Name pl g) X.5:=by rfl)
 (HJ:((backTo r (starEach [.Name sg o,.Constant (.str C) j p] X.5)).all (λx=>!x.1)&&(backToKw r (QJ [] X.5)).all (λx=>x.1.isSome)
   && decide (([.Name sg o,.Constant (.str C) j p]:List Expr).length+([]:List Vj).length+(if ([]:List Vj).isEmpty then 0 else 1)<30))=true:=by rfl)
 (T:(U.endLine==r.line)=true:=by rfl) :
 wo X [.Assign [.Name sg p1] (.Subscript (.Name pl p2) idx p3) p4,.Assign [.Name fd p5] (.BinOp (.Name fd p6) .Add (.Name sg p7) p8) p9,
  .Assign [.Name pl L0] (.Call (.Attribute (.Name pl g) "replace" U) [.Name sg o,.Constant (.str C) j p] [] r) L1] (D1 a b c C ti):=by
 refine{?_};intro f s σ H D I tk h
 let{d,found,Y,e2,h}:=h
 refine Pw (Qm (Uu ?_) Lb);refine OB (Qp tk (tZ ha (.inl la) Js L9 f s σ H (λx Z=>x=.str d/\Z=H) I {_,Y,rfl,rfl})) (λv s1 ⟨M,x,Z,I1,r1,ex,eH⟩=>?_) (λ_ _ e=>e.2);subst ex eH;refine OB (Qp M (HI f s1 σ _ _ I1 h)) (λu m ⟨N3,y,H2,I2,r2,i,ch,ey,hp,hf,O,q⟩=>?_) (λ_ _ e=>e.2);subst ey
 let{t,rfl}:=r1
 let{t',rfl}:=r2
 let{jj,h1,h2,h3,h4,h5}:=lO O
 have hl:d.cps.toList.9=d.9:=by simp[QF]
 rw[hl]at h1 h4 h5;have hn:=jW
 refine tail_any (R6 m d t) Tn.lookup (getItem_str (c:=ch) (by
  have q1:decide (i < -(2^63:Int))=false:=decide_eq_false ();have q2:decide (i ≥ 2^63)=false:=decide_eq_false ()
  rw[q1,q2,Bool.or_false]) (by rw[h1];simpa using h2) ?_) (L4 _ _)
 have I3:=I2.tok (m.toks+1)
 let{m3,n3,_}:=id I3.loc
 refine ud I3 n3 hN hb lb (v:=.str {#[ch]}) ⟨m.toks,rfl⟩ λz A B t4=>?_;have lσ:σ.9=X.N.9:=I.len;have N4:a<σ.9:=by rw[lσ];exact(O8.mp ha).1
 have N5:b<σ.9:=by rw[lσ];exact(O8.mp hb).1
 have N6:c<σ.9:=by rw[lσ];exact(O8.mp hc).1
 let{uf,mf,tf,rfl}:=Ce (v:=.str found) A B hc (by rw[PZ L7];exact e2) lc
 refine Pw (Qm (wpAny_BinOp ?_) rfl);refine RE (Qi A.ok.kind lc B mf ?_) La;refine RE (Qi A.ok.kind lb B (v:=.str {#[ch]} m.toks) (by simp) ?_) Jt;refine wpAny_with_toks (n:=z.toks) (Ob _) (W0 (λt' k=>?_) (by rw[QI];show found.9+1<=_;lia));intro hk;have Q:({z with toks:=k}:Shared).heap.Ns X.env.locals _:=B;refine ud (A.tok k) Q hN hc lc (v:=.str (found++{#[ch]})) ⟨t',rfl⟩ λE G L t5=>?_;have N7:z.toks<=k:=hk;have N8:E.toks=k+1:=t5;have N9:z.toks=m.toks+1+1:=t4
 let{up,mp,tp,rfl}:=Ce (v:=.str d) G L ha (by rw[PZ L6.symm,PZ L5.symm];exact Y) la
 refine Pw (Qm (U5 J HJ T rfl ?_) rfl);refine RE (Qi G.ok.kind la L mp ?_) Js;refine{"str","str.replace",Qv,PySem.F.slot_str_replace,PySem.F.type_str_replace,R6 _ _ _,(λ_ e=>nomatch e),?_};refine RL (by rfl) (Uv ?_);show wpAny _ _ (spliced ((false,eval (.Name sg o) X.5)::(false,eval (.Constant (.str C) j p) X.5)::[])) _ _ _;refine SH (RE (Qi G.ok.kind lb L (v:=.str {#[ch]} m.toks) (by simp[L8]) ?_) Jt);refine SH (Rx ?_);refine Vo ?_
 have R:(({#[ch]}:Str)==C)=false:=by
  refine beq_eq_false_iff_ne.mpr λe=>?_;have:=congrArg QF e;rw[hz]at this;exact absurd this (by show ¬((1:Nat)=0);decide)
 have a1:m.toks≠0:=();have a2:E.toks≠0:=();have a3:m.toks≠E.toks:=();refine SC.replace a1 a2 a3 R (by rw[hz];lia) λS w=>?_;have V:({E with toks:=w}:Shared).heap.Ns X.env.locals _:=L;refine ud (G.tok w) V hN ha la (v:=.str (SG d {#[ch]} C)) ⟨S,rfl⟩ λs6 I6 n6 t6=>?_;exact PQ {_,H2,I6,q}
theorem Cx.Ok.marked(ok:X.Ok):(X.marked e).Ok:=
 {ok.mod,ok.kind,ok.glob,ok.blt,ok.above,ok.inj,ok.has,ok.BV,λz=>Bool.noConfusion z,ok.frames,ok.CA,ok.Ef,ok.bs,ok.uV,ok.pQ,ok.tI,ok.iC,ok.A8}
theorem Inv.marked(I:Inv X pins σ H s):Inv (X.marked e) pins σ H s:=⟨I.ok.marked,I.os,I.bare,I.base,I.loc,I.cell,I.free,I.da,I.pin,I.aI,I.len⟩
theorem Inv.unmarked(ok:X.Ok)(I:Inv (X.marked e) pins σ H s):Inv X pins σ H s:=⟨ok,I.os,I.bare,I.base,I.loc,I.cell,I.free,I.da,I.pin,I.aI,I.len⟩
theorem HK(e:h.get? x=ρ {.ref C,od,.fields vs,sl}):b6 P w H h x (XC x C od):=
 {⟨vs,sl,e⟩,{_,e},λd f ⟨a,b,c⟩ k=>{a,b,k _ c}}
theorem Inv.F8{φ:Heap->Prop}(I:Inv X pins σ H s)(hn:H x=τ)(g:X.s₀.8<=x)(hl:x≠X.env.locals)(hc:∀y c,X.env.cells.lookup y=ρ c->c≠x)(j:∀p∈X.pn++pins,p.1≠x)(ok:b6 X.prog X.w (upd H x (.ext φ)) s.heap x (.ext φ)) :
 Inv X pins σ (upd H x (.ext φ)) s:=by
 have u:=I.base;refine{I.ok,I.os,I.bare,{u.keep,u.slot,λb o q n hx=>?_,u.there,λb f q=>?_,λb o v q=>?_,λb ps q=>?_},I.loc,I.cell,by rw[a8 (Pz hl)];exact I.free,λy c e=>by rw[a8 (hc y c e)];exact I.da y c e,λp d=>?_,λa o e=>?_,I.len}
 .rw[a8 (λz=>by rw[z]at q;exact absurd (O7 (Oa q) g) (OX _))];exact u.free b o q n hx
 .have e:=u.iZ b f q;rw[a8 (ae e hn)];exact e
 .have e:=u.iB b o v q;rw[a8 (ae e hn)];exact e
 .let{m,e}:=u.j0 b ps q
  exact{m,by rw[a8 (ae e hn)];exact e}
 .let{a1,a2,a3}:=I.pin p d
  exact{a1,by rw[a8 (j p d)];exact a2,a3}
 .by_cases z:a=x
  .subst z;rw[a5]at e;cases e;exact ok
  .rw[a8 z]at e;refine(I.aI a o e).iJ (λb u _ q=>q) (λb q=>?_) λb f q=>?_
   .rw[a8 (ae q hn)];exact q
   .rw[a8 (ae q hn)];exact q
theorem Inv.yD{m:Str->Option Value}(I:Inv X pins σ H s)(J:X.N.Nodup)(C:X.N[j]?=ρ n)(hk:X.env.scope.names.lookup n=ρ .local)
 (T:∃m,s.heap.Ns X.env.locals m/\(∀(i:Nat) (x:Str) (v:V),X.N[i]?=ρ x->σ[i]?=ρ (ρ v)->Cz X.env.scope x->∃u,RelV v u/\Look X.env s.heap m x u)/\h'.Ns X.env.locals (λx=>if x=n then v else m x))
 (g:S4 X.env.locals s.heap h'):Inv X pins (σ.set j τ) H {s with heap:=h',toks:=tk}:=by
 let{m,hn,hl,r}:=T
 have tY:=I.tY
 let{Q,_,_,A,_}:=id hn
 refine{I.ok,I.os,I.bare,{λb o e n t hx=>?_,λb o e n t hx=>?_,I.base.free,λb o e hx=>?_,I.base.iZ,I.base.iB,I.base.j0},{_,r,λi y B h l D=>?_},λy c e=>?_,I.free,I.da,λp E=>?_,λb ob e=>?_,by simpa using I.len}
 .exact(g.2 b (Oe (O7 (Oa e) I.ok.above))).trans (I.base.keep b o e n t hx)
 .let{sl,h}:=I.base.slot b o e n t hx
  exact{sl,(g.2 b (Oe (O7 (Oa e) I.ok.above))).trans h}
 .let{G,h}:=I.base.there b o e hx
  exact{G,(g.2 b (Oe (O7 (Oa e) I.ok.above))).trans h}
 .by_cases f:i=j
  .subst f;have:i<σ.9:=by rw[I.len];exact(O8.mp C).1
   rw[Qu this]at l;cases l
  .rw[PZ (Pz f)]at l
   let{L,M,q}:=hl i y B h l D
   refine{L,M,?_};rcases q with⟨k,e⟩ |⟨k,c,e,z⟩
   .refine .inl {k,?_};have:y≠n:=λe=>f (j1 J h (e ▸ C));simp[this,e]
   .exact .inr {k,c,e,z.sameBut g (tY y c e)}
 .let{w,z}:=I.cell y c e
  exact{w,z.sameBut g (tY y c e)}
 .let{e,n,ne,O,d}:=I.pin p E
  exact{(g.2 p.1 ne).trans e,n,ne,O,d}
 .refine(I.aI b ob e).iJ (λc w hc q=>(g.2 c ?_).trans q) (λ_ q=>q) λ_ _ q=>q;rintro rfl;have a:=I.free;rcases hc with rfl |hc
  .rw[a]at e;cases e
  .rw[a]at hc;cases hc
end
section
variable{te:Eu}{i:Nat}
abbrev AF(X:Cx)(ifs:List Expr)(t:TT):Prop:=Bx (∀(pins:List (Addr×Obj)) (s:Shared) (σ:St) (H:Hp) (Q:Bool->Hp->Prop),Inv X pins σ H s->t σ H Q ->
  wpAny (model X.prog X.w) X.A (forIn ifs true λc r=>if r=true then do let ok <-isTrue c X.env (eval c X.5);pure (R1 ok) else pure (R1 r)) (TP X pins σ Q) X.xe s)
theorem cf{X:Cx}:AF X [] y2:={λ_ _ _ H _ I h=>wpAny_tests_nil ⟨H,I,h⟩}
theorem ql{X:Cx}(h:PT X c t):AF X [c] t:={λa s σ H Q I hw=>wpAny_tests_one (h a s σ H Q I hw)}
noncomputable def HL(te:Eu)(i:Nat):DZ:=λE D σ H=>te (E σ) σ H λv H1=>D.nx (σ.set i (ρ v)) H1
theorem wB{X:Cx}{K:O4}(g:X.K=K)(hc:X.calm=true):cP X (.builtin "any") (λxs H Q=>∃p bs,xs=[.ref p]/\aK K H p (Sy V.bl bs)/\Q (.bl (bs.any id)) H):=by
 subst g;exact my hc
end
section
variable{X:Cx}{pins:List (Addr×Obj)}{σ:St}{H:Hp}{s₂:Shared}{scope:Qr}{x:Str}{xs ys:List Str}{ix:List Nat}{cl:List (Str×Addr)}{fp:List Addr}{L:Addr}
theorem AG(B:d2 X scope x ys ix)(I:Inv X pins σ H s₂)(j:∀b∈fp,ib X pins H b)(l:∀b∈fp,b<s₂.8)(r:s₂.8<=L)
 (g:∀y c,cl.lookup y=ρ c->X.env.cells.lookup y=ρ c) (p:∀y∈scope.names,y.2=.free->∃c,cl.lookup y.1=ρ c):(aX X scope N cl L s₂ H fp (X.pn++pins)).Ok where
 mod:=I.ok.mod
 kind:=B.kind
 glob:=I.ok.glob
 blt:=I.ok.blt
 above:=r
 inj:=λa b c i m=>I.ok.inj a b c (g a c i) (g b c m)
 has:=λa ha=>by
  let{k,f,hk}:=pW (env:=X.5) B.yc (x:=a) ha
  exact p (a,k) f hk
 BV:=λ_ _ h=>nomatch h
 hd:=I.ok.hd
 frames:=I.ok.frames
 CA:=.inl rfl
 Ef:=λb d=>{Oe (O7 (l b d) r),λy c h=>(j b d).2.2.2.2.1 y c (g y c h)}
 bs:=I.bs
 uV:=Od I.ok.uV I.sz
 pQ:=λb o e d=>by
  rcases(j b d).2.2.2.1 with z |z
  .exact I.ok.pQ b o e z
  .exact absurd (O7 (O7 (Oa e) I.ok.uV) z) (OX _)
 tI:=λb d f=>by
  rcases Oi.mp (I.gr b f) with z |z
  .exact(j b d).2.1 z
  .exact(j b d).2.2.1 z
 iC:=I.stack
 A8:=I.j6
theorem yE{m₁:Str->Option Value}(B:d2 X scope x ys ix)(I:Inv X pins σ H s₂)(hf:∀b∈fp,ib X pins H b)(J:∀b∈fp,b<s₂.8)(T:s₂.8<=L)
 (g:∀y c,cl.lookup y=ρ c->X.env.cells.lookup y=ρ c) (C:∀y∈scope.names,y.2=.free->∃c,cl.lookup y.1=ρ c)
 (kp:∀b o,s₂.heap.get? b=ρ o->t.get? b=ρ o) (U:t.Ns L m₁) (hl:l=s₂.8) (Lc:l≠L) (ho:t.get? l=ρ {cls:=.type "list",data:=.seq ([]:List Value).toArray n₀}) :
 Inv (aX X scope (xs++ys) cl L s₂ H fp (X.pn++pins)) [] (P9 xs.length τ++pick σ ix) (upd H l (.lst [])) {s₂ with heap:=t,toks:=tk}:=by
 subst hl;have Q:=I.aI.fresh (Ob s₂.8);refine{AG B I hf J T g C,rfl,I.bare,Un.laid kp (Ob _) Q,{m₁,U,λi y v D E Z=>?_},λy c e=>?_,?_,λy c e=>?_,λp O=>?_,I.aI.laid kp (Ob _) {OZ _,[],n₀,.nil,ho},?_}
 .obtain⟨j,rfl⟩:∃j,i=xs.9+j:=by
   by_cases z:i<xs.9
   .rw[Qe (by simpa using z)]at E;simp[z]at E
   .exact{i-xs.9,()}
  have G:ys[j]?=ρ y:=by
   have D:(xs++ys)[xs.9+j]?=ρ y:=D;rwa[P5 (Nat.le_add_right _ _),QU]at D
  let{i,hi,R,hk,a}:=B.slots j y G
  have f:(σ[i]?).join=ρ v:=by
   have:(pick σ ix)[j]?=ρ (ρ v):=by rwa[P5 (by simp),RV,QU]at E
   unfold pick at this;rw[OC,hi]at this;exact Oc this
  have s:σ[i]?=ρ (ρ v):=by
   cases q:σ[i]? with
   |none=>rw[q]at f;cases f
   |some z=>rw[q]at f;rw[show z=ρ v from f]
  let{m,hn,M}:=I.loc
  have N:Cz X.env.scope y:=.inr (hk.imp id id)
  let{u,r,l}:=M i y v R s N
  refine{u,r,.inr {gn a,?_}};rcases l with⟨k,_⟩ |⟨_,c,hc,h⟩
  .have A:X.env.scope.names.lookup y=ρ .local:=k;rcases hk with z |z
   .rw[z]at A;cases A
   .rw[z]at A;cases A
  .let{S,w}:=C (y,.free) (PH a) rfl
   have:=g y S w;rw[hc]at this;cases this
   let{o,q,d}:=h
   exact{c,w,o,kp c o q,d}
 .let{v,o,q,d}:=I.cell y c (g y c e)
  exact{v,o,kp c o q,d}
 .show upd H s₂.heap.objs.size (.lst []) L=τ;rw[a8 (Pz Lc)];exact I.aI.fresh T
 .let{v,o,q,d}:=I.cell y c (g y c e)
  rw[a8 (Oe (Oa q))];exact I.da y c (g y c e)
 .rw[Pq]at O
  let{q,n,ne,V,d}:=I.pin p O
  have lt:=Oa q;refine{kp _ _ q,by rw[a8 (Oe lt)];exact n,Oe (O7 lt T),λY=>?_,d};rcases Oi.mp (I.gr p.1 Y) with z |z
  .exact ne z
  .exact V z
 .simp[pick,B.len,aX]
theorem vt(B:d2 X scope x ys ix)(cl L s H ex pn):PG (aX X scope ([x]++ys) cl L s H ex pn) (.Name x g) (gi 0):=
 have hx:(relabel scope X.5).names.lookup x=ρ .local:=lookup_relabel_local B.var
 lQ B.nd rfl (.inl hx) (.inr hx)
end
section
variable{X:Cx}{e:Expr}{es:List Expr}{te:TE}{t:TA}
theorem a4(ha:PE X e te)(g:PA X es t)(j:starEach (e::es) X.5=(false,eval e X.5)::starEach es X.5:=by rfl):PA X (e::es) (mc te t):=by
 refine{?_};intro pos a s σ H Q I h;rw[j];show wpAny _ _ (spliced ((false,eval e X.5)::backTo pos (starEach es X.5))) _ _ s;refine SH (bb (ha a s σ H _ I h) λu b ⟨x,c,d,f,i⟩=>?_);exact bb (g pos a b σ c _ d i) λp q ⟨k,l,m,n,o⟩=>{x::k,l,m,.cons f n,o}
theorem aB(ha:PE X e te)(g:starEach [e] X.5=(false,eval e X.5)::starEach [] X.5:=by rfl):PA X [e] (mc te nU):=a4 ha mn g
end
section
variable{X:Cx}{e:Expr}{es:List Expr}{te:TE}{t:TJ}{pos:Pos}
theorem iK(h:PJ X es t):PJ X (.Constant (.str z) j pos::es) (HF z t):={λa s σ H b Q I q=>
 joinParts_cons (Rx {q.1,h a _ σ H _ Q (I.tok _) q.2})}
theorem qm(he:PE X e te)(h:PJ X es t):PJ X (.FormattedValue e (-1) τ pos::es) (HG te t):={λa s σ H j Q I q=>by
 refine joinParts_cons (FormattedValue_plain (bb (he a s σ H _ I q) λv n ⟨y,d,f,g,k⟩=>?_));rcases k with⟨i,rfl,hl,b,c⟩ |⟨z,rfl,hl,b,c⟩
 .let{l,rfl}:=g
  exact formatField_int_small hl {b,h a _ σ d _ Q (f.tok _) c}
 .let{l,rfl}:=g
  exact formatField_str (λo m=>{b,h a _ σ d _ Q (f.tok _) c}) hl}
end
section
variable{X:Cx}{x:Str}{p pos:Pos}{e:Expr}{es:List Expr}{t:TA}{id:String}{r:List V->Hp->VK->Prop}
def F9(r:List V->Hp->VK->Prop)(t:TA):TE:=λσ H Q=>t σ H λvs H1=>r vs H1 Q
theorem aD(hc:cP X (.builtin id) r)(j:Gl X x)(l:X.mg x=τ)(o:P7 x=ρ (.builtin id))(ha:PA X (e::es) t)(hn:x≠"__name__":=by decide)(g:(x==("__debug__":Str))=false:=by decide)
 (he:starEach (e::es) X.5=(false,eval e X.5)::starEach es X.5:=by rfl) (hpl:(backTo pos (starEach es X.5)).any (·.1)=false:=by rfl):PE X (.Call (.Name x p) (e::es) [] pos) (F9 r t):=by
 refine{?_};intro a s σ H Q I h;refine Qc (iI I j l o ?_ hn g);exact S7 (bb (ha pos a s σ H _ I h) λb c ⟨d,f,i,k,m⟩=>hc a c σ f d b Q i k m) he hpl
end
section
variable{X:Cx}{e:Expr}{te:TE}{pos p:Pos}
theorem vv(g:X.mg "len"=τ)(h:PE X e te)(j:Gl X "len":=by rfl)(he:starEach [e] X.5=(false,eval e X.5)::starEach [] X.5:=by rfl)(hpl:(backTo pos (starEach [] X.5)).any (·.1)=false:=by rfl) :
 PE X (.Call (.Name "len" p) [e] [] pos) (F9 (λxs H Q=>∃z,xs=[.str z]/\z.9<=sizeLine/\Q (.int z.9) H) (mc te nU)):=aD qi j g Ug (a4 h mn he) (he:=he) (hpl:=hpl)
theorem Aa(g:X.mg "len"=τ)(h:PE X e te)(j:Gl X "len":=by rfl)(he:starEach [e] X.5=(false,eval e X.5)::starEach [] X.5:=by rfl)(hpl:(backTo pos (starEach [] X.5)).any (·.1)=false:=by rfl) :
 PE X (.Call (.Name "len" p) [e] [] pos) (F9 (λxs H Q=>∃p ys,xs=[.ref p]/\(aK X.K H p ys\/eI X.K H p ys)/\Q (.int ys.9) H) (mc te nU)):=aD qh j g Ug (a4 h mn he) (he:=he) (hpl:=hpl)
end
section
variable{prog:Om}{w:World}{A:Around}{E:Value->Shared->Prop}{s:Shared}{K:O4}{x dx C:Addr}{mA:Str->Option Value}{name:Str}{v:Value}
theorem get_map{Q:Value->Shared->Prop}(X:K.In s.heap)(I:tK s.heap x dx C mA)(j:RO K C name=true)(l:T1 K C=true)
 (ha:OH K (.ref C) name=ρ τ) (o:mA name=ρ v) (g:VB v=true) (h:Q v {s with toks:=s.toks+1}) :
 wpAny (model prog w) A (getAttr (.ref x) name expr) Q E s:=by
 let{a,J,hl}:=I.look
 exact PySem.W.get_value X J (Sr j).1 (PySem.W.findObj_own l ha rfl (by rw[hl,o])) g h
theorem AH{Q:Unit->Shared->Prop}(X:K.In s.heap)(I:tK s.heap x dx C mA)
 (g:OH K (.ref C) "__setattr__"=ρ (ρ (.builtin "object.__setattr__"))) (j:Vl K C=true) (l:TL K C name=ρ τ) (o:T1 K C=true)
 (hw:V6 mA ns) (hsz:ns.9<=sizeLine)
 (h:∀h',tK h' x dx C (λy=>if y=name then ρ v else mA y)->S4 dx s.heap h'->Q .unit {s with heap:=h',toks:=s.toks+2}) :
 wpAny (model prog w) A (setAttr (.ref x) name v) Q E s:=by
 let{p,J,hl}:=I.look
 refine Vp X J g (PySem.W.osa_open (s:={s with toks:=s.toks+1}) (r:=τ) X J j l λb=>?_)
 let{q,hc,e}:=PySem.W.any_some o
 have hx:s.heap.get? x=ρ {.ref C,ρ dx,.plain,#[]}:=I.obj;refine O6 (Oo (O6 (O6 (Uh hx (O6 (V9 (s:={s with toks:=s.toks+1}) (Tj X hc) ?_))))));rw[e];refine Oo (a:=ρ dx) (O6 (Oo (O6 ?_)));refine wpAny_nsSet1 (s:={s with toks:=s.toks+1}) I.ns λh' c d=>?_
 let{t,i,k,f,m,n}:=c.count (VX name v hw)
 refine O6 (wpAny_lookBehind f (by grind [pastItsLine_dict,Od]) ?_);exact Oo (h _ {(d.2 _ (Pz I.ne)).trans I.obj,c,I.ne} d)
end
section
variable{prog:Om}{w:World}{A:Around}{E:Value->Shared->Prop}{s:Shared}{K:O4}{x dx C f:Addr}{mA:Str->Option Value}{name:Str}
theorem yF{Q:Value×List Value->Shared->Prop}(X:K.In s.heap)(I:tK s.heap x dx C mA)(g:RO K C name=true)
 (j:OH K (.ref C) name=ρ (ρ (.ref f))) (l:Rh K (.ref f)=true) (o:mA name=τ) (h:Q (.ref f,[.ref x]) s) :
 wpAny (model prog w) A (Ry (.ref x) name pl) Q E s:=by
 let{a,J,hl}:=I.look
 exact PySem.W.method_fn X J (Sr g).1 (Sr g).2 j (beq_iff_eq.mp l) (by show (Su name a).map (·.isSome)=ρ false;rw[hl,o];rfl) h
theorem yG{R:S1->Shared->Prop}(X:K.In s.heap)(l:VQ K C=true)
 (hi:OH K (.ref C) "__init__"=ρ (ρ (.ref f))) (o:PySem.W.typeIn K (.ref f)=ρ (.type "function"))
 (h:codeAny (model prog w) (A.under (.builtin "type.__call__" {.ref C::vs,j})) (.call (.ref f) {.ref (s.8+1)::vs,j}) (PySem.W.InitBack (s.8+1) R)
   {s with heap:=(s.heap.push PD).push (Qf C s.8)}) :
 codeAny (model prog w) A (.call (.ref C) ⟨vs,j⟩) R s:=by
 let{a,g,d,t,os}:=s
 exact PySem.W.make_core (PySem.W.makes_of X l) (Rl X hi) (λself=>PySem.W.bind_fn X self o) (.inl rfl) h
end
section
variable{X:Cx}{o e:Expr}{es:List Expr}{to:TE}{t:TA}{name:Str}{apos gy:Pos}{T id:String}{r:V->List V->Hp->VK->Prop}
theorem De(p:PlainAttrs T)(slot:Slot T name id)(l:typeOf (.builtin id)=pure (.type "method_descriptor"))(C:D3 X id r)(J:PE X o to)
 (g:QX o name X.env (eval o X.5)=eval o X.5:=by rfl) (j:(apos.endLine==gy.line)=true:=by rfl):PE X (.Call (.Attribute o name apos) [] [] gy) (EZ X.K T r to):=by
 refine{?_};intro a s σ H Q I h;refine wpAny_Call_method0_late g j (bb (J a s σ H _ I h) λv d ⟨x,e,b,c,ty,f⟩=>?_)
 let{i,k}:=yy b c ty
 exact{T,id,p,slot,l,i,k,RL rfl (PySem.evalArgs_none (C a d σ e x [] v [] Q b c .nil f))}
theorem mC(J:PlainAttrs T)(slot:Slot T name id)(C:typeOf (.builtin id)=pure (.type "method_descriptor"))(U:D3 X id r)(ho:PE X o to)(ha:PA X (e::es) t)
 (j:QX o name X.env (eval o X.5)=eval o X.5:=by rfl)
 (p:((backTo gy (starEach (e::es) X.5)).all (λx=>!x.1)&&(backToKw gy (QJ [] X.5)).all (λx=>x.1.isSome)
   && decide ((e::es).9+([]:List Vj).length+(if ([]:List Vj).isEmpty then 0 else 1)<30))=true:=by rfl)
 (l:(apos.endLine==gy.line)=true:=by rfl) (hs:starEach (e::es) X.5=(false,eval e X.5)::starEach es X.5:=by rfl) (g:(backTo gy (starEach es X.5)).any (·.1)=false:=by rfl) :
 PE X (.Call (.Attribute o name apos) (e::es) [] gy) (HD X.K T r to t):=by
 refine{?_};intro a s σ H Q I h;refine U5 j p l rfl (bb (ho a s σ H _ I h) λv f ⟨x,i,b,c,ty,k⟩=>?_)
 let{m,n}:=yy b c ty
 refine{T,id,J,slot,C,m,n,?_};have d:=ha gy a f σ i _ b k;rw[hs]at d ⊢;refine RL (by show (false ||(backTo gy (starEach es X.5)).any (·.1))=false;rw[g]<;>rfl) (Uv ?_);exact bb d λq u ⟨w,y,z,A,B⟩=>U a u σ y x w v q Q z c A B
end
section
variable{P:Om}{w:World}{H:Hp}
theorem AI{X:Cx}{K:O4}{o:Expr}{t:TE}{name:Str}{apos g:Pos}{T id:String}{r:V->List V->Hp->VK->Prop}(C:X.K=K)(I:PlainAttrs T)(slot:Slot T name id)(p:typeOf (.builtin id)=pure (.type "method_descriptor"))(J:D3 X id r)(U:PE X o t)
 (j:QX o name X.env (eval o X.5)=eval o X.5:=by rfl) (l:(apos.endLine==g.line)=true:=by rfl):PE X (.Call (.Attribute o name apos) [] [] g) (EZ K T r t):=by
 subst C;exact De I slot p J U j l
theorem fw.past{lo:Nat}{H:Hp}{fs:List Addr}{h h':Heap}(x:fw P w H h)(p:yl lo H fs h h')(g:∀b∈fs,H b=τ):fw P w H h':=λa o e=>
 (x a o e).iJ (λb u c q=>p.keep b u q (.inr (by grind)) λd=>by
   grind) (λ_ q=>q) λ_ _ q=>q
end
section
variable{X:Cx}{pins:List (Addr×Obj)}{σ:St}{H:Hp}{s s':Shared}
theorem Inv.after(I:Inv X pins σ H s)(h:CE X.stack X.prog X.w H s Q u s'):EP X pins σ Q u s':=by
 let{v,c,os,bare,un,aI,r,q}:=h
 let{e,g,d,t,a}:=s'
 obtain rfl:a=s.os:=os;exact{v,c,I.call (h':=e) (g':=g) (d':=d) (t':=t) (ch:=[]) un aI bare (λb z=>absurd z (by simp)),r,q}
theorem Inv.yH{l g:Hp}{j s1:Shared}{h':Heap}(C:Inv X pins σ l j)(r:s1.os=j.os)(bare:AllBare s1.gens)(un:Un (lM X.stack) [] l g j.heap s1.heap)(aI:fw X.prog X.w g s1.heap)
 (p:yl j.heap.objs.size g (lM X.stack) s1.heap h') (t:∀b∈lM X.stack,g b=τ):Un (lM X.stack) [] l g j.heap h'/\fw X.prog X.w g h'/\∀tk,Inv X pins σ g {s1 with heap:=h',toks:=tk}:=by
 have e:Un (lM X.stack) [] l g j.heap h':=by
  refine{λb o d n a hx=>p.keep b o (un.keep b o d n a hx) (.inl (Oa d)) a,λb o d n a hx=>?_,un.free,λb o d hx=>?_,un.iZ,un.iB,un.j0}
  .let{sl,f}:=un.slot b o d n a hx
   let{h,i}:=p.slot b _ f a
   exact⟨h,i⟩
  .let{k,f}:=un.there b o d hx
   by_cases m:b∈lM X.stack
   .let{sl,i}:=p.slot b k f m
    exact{_,i}
   .exact{k,p.keep b k f (.inl (Oa d)) m}
 have c:=aI.past p t;exact{e,c,λtk=>C.oZ (s':={s1 with heap:=h',toks:=tk}) r e c bare λb z=>absurd z (by simp)}
end
section
variable{X:Cx}{CX:we}{k:Nat}{f C:Addr}{fd:P0}{ps:List Str}{sp:Sp}{lA:List V}{ds:List Value}{E:XK}{x:Str}{p pos:Pos}{e:Expr}{es:List Expr}{t:TA}
theorem ue(F:aH X.prog X.w X.K X.mg X.base CX k f fd ps sp)(j:bA k X.A)(l:Binds X.K fd ps ds)(hd:Vals lA ds)(hx:Passes CX X E)
 (I:Inv X g σ H s) (r:Vals vs us) (h:sp (vs++lA) H Q E):wpAny (model X.prog X.w) X.A (call (.ref f) us) (EP X g σ Q) X.xe s:=by
 have b:Vals (vs++lA) (us++ds):=r.append hd;have hl:(us++ds).9=ps.9:=by rw[<-b.9];exact F.len _ _ _ _ h
 refine Qw (Qy (F.run X.A X.stack s H {us,[]} (us++ds) (vs++lA) Q E j I.AA (l s us I.dC hl) b h) λr c a=>?_)
 cases r with
 |error e=>exact hx g σ H s e c I a
 |ok fl=>
  cases fl with
  |ret u=>exact I.after a
  |next=>exact OI a
  |brk=>exact OI a
  |cont=>exact OI a
theorem j9(F:aH X.prog X.w X.K X.mg X.base CX k f fd ps sp)(j:bA k X.A)(l:Gl X x)(J:X.mg x=ρ (.ref f))(hk:QL X.K (.ref f)=true)(T:Binds X.K fd ps ds)(hd:Vals lA ds)(hx:Passes CX X E)
 (ha:PA X (e::es) t) (g:(x==("__debug__":Str))=false:=by decide) (he:starEach (e::es) X.5=(false,eval e X.5)::starEach es X.5:=by rfl) (hpl:(backTo pos (starEach es X.5)).any (·.1)=false:=by rfl) :
 PE X (.Call (.Name x p) (e::es) [] pos) (C0 sp lA E t):=by
 refine{?_};intro a s σ H Q I h;refine Qc (eA I l J ?_ g);refine Qz (h₀:=X.base) I.ok.mod.BU hk (bb (ha pos a s σ H _ I h) λc d ⟨i,m,b,r,q⟩=>{b.dC,?_}) he hpl;exact ue F j T hd hx b r q
structure Mk(K:O4)(C f:Addr):Prop where
 makes:VQ K C=true
 init:OH K (.ref C) "__init__"=ρ (ρ (.ref f))
 fn:Rh K (.ref f)=true
 kp:QL K (.ref C)=true
end
section
variable{X:Cx}{st:Stmt}{tx:DZ}
theorem yI(g:Jr X st tx):EX X [st] tx:=by
 refine{?_};intro a s σ H D E I h;refine Pw (OB (g a s σ H D E I h) (λf b q=>?_) λ_ _ z=>z)
 cases f with
 |next=>exact PQ q
 |ret v=>exact q
 |brk=>exact q
 |cont=>exact q
theorem af(F:aH X.prog X.w X.K X.mg X.base dk k f fd ps sp)(a:FnAt X.K X.mg x C ps f fd)(ha:PA X (e::j) t)(o:bA k X.A:=by exact bA.mono (by assumption) ⋯)(r:Gl X x:=by rfl)(l:(x==("__debug__":Str))=false:=by decide)
 (he:starEach (e::j) X.5=(false,eval e X.5)::starEach j X.5:=by rfl) (hpl:(backTo pos (starEach j X.5)).any (·.1)=false:=by rfl):PE X (.Call (.Name x p) (e::j) [] pos) (C0 sp [] E0 t):=
 j9 F o r a.g a.F.kp a.b .nil rM ha l he hpl
end
section
variable{X:Cx}{pins:List (Addr×Obj)}{σ:St}{H:Hp}{s:Shared}{a C dx:Addr}{fs:List (Str×V)}{f:Str}{A:Around}{E:Value->Shared->Prop}
theorem Inv.made(I:Inv X pins σ H s):Inv X pins σ (upd (upd H s.heap.objs.size (.own (s.8+1))) (s.8+1) (.ins C s.heap.objs.size []))
 {s with heap:=(s.heap.push PD).push (Qf C s.8)}:=by
 have c:(s.heap.push PD).get? s.8=ρ PD:=Oq s.heap rfl
 have d:((s.heap.push PD).push (Qf C s.8)).get? (s.8+1)=ρ (Qf C s.8):=by
  have:=Oq (s.heap.push PD) (o:=Qf C s.8) rfl;rwa[Q0]at this
 have f:(s.heap.push PD).Ns s.heap.objs.size (λ_=>τ):={PD,#[],_,c,rfl,(λe g=>absurd g (by simp)),λ_=>rfl};have h:=I.laid (a:=s.8) (o:=.own (s.8+1)) (h':=s.heap.push PD) (t':=s.toks) (λb u q=>O9 _ q) (Ob _) {_,c};refine h.laid (a:=s.8+1) (o:=.ins C s.heap.objs.size []) (t':=s.toks) (λb u q=>O9 _ q) (S3 (Q0 _ _)) ?_;have ne:s.heap.objs.size≠s.8+1:=Oe (Qt _);refine{by rw[a8 ne,a5],OZ _,ne,d,λ_=>τ,(Vq f).at λo q=>O9 _ q,λ_=>PN,λy i=>absurd rfl i}
theorem vx{Q:Value->Shared->Prop}(j:QX e f env (eval e env)=eval e env)
 (h:wpAny (model prog w) A (eval e env) (λo g=>wpAny (model prog w) A (getAttr o f true) Q E g) E s):wpAny (model prog w) A (eval (.Attribute e f pos) env) Q E s:=
 Attribute_any_ h (by rw[arm_eval_Attribute,j])
end
section
variable{X:Cx}{CX:we}{k:Nat}{f C:Addr}{fd:P0}{ps:List Str}{sp:Sp}{lA:List V}{ds:List Value}{E:XK}{x:Str}{p pos:Pos}{e:Expr}{es:List Expr}{t:TA}
theorem rY(M:Mk X.K C f)(F:aH X.prog X.w X.K X.mg X.base CX k f fd ps sp)(l:bA (k+1) X.A)(J:Binds X.K fd ps ds)(hd:Vals lA ds)
 (hx:Passes CX X E) (I:Inv X g σ H s) (r:Vals vs us)
 (h:∀x j,H x=τ->H j=τ->j≠x->sp (.ref x::(vs++lA)) (upd (upd H j (.own x)) x (.ins C j [])) (λv T=>v=.non/\Q (.ref x) T) E) :
 wpAny (model X.prog X.w) X.A (call (.ref C) us) (EP X g σ Q) X.xe s:=by
 have c:=h (s.8+1) s.heap.objs.size (I.aI.fresh (PX _)) (I.aI.fresh (Ob _)) (Oe (Qt _));have b:=Inv.made (C:=C) I;have d:Vals (V.ref (s.8+1)::(vs++lA)) (Oh (s.8+1)::(us++ds)):=.cons rfl (r.append hd)
 have hl:(Oh (s.8+1)::us++ds).9=ps.9:=by
  have e:=d.9;rw[F.len _ _ _ _ c]at e;exact e.symm
 refine Qw (yG (f:=f) I.dC M.makes M.init (beq_iff_eq.mp M.fn) (Qy (F.run _ X.stack _ _ {Oh (s.8+1)::us,[]} (Oh (s.8+1)::(us++ds)) _ _ E (l.make C us [])
  (b.AA.make C us []) (J _ (Oh (s.8+1)::us) b.dC hl) d c) λr i a=>?_))
 cases r with
 |error e=>exact hx g σ _ _ e i b a
 |ok fl=>
  cases fl with
  |ret u=>
   let{v,m,n,o,p,q}:=b.after a
   subst p;exact{o,{V.ref (s.8+1),m,n,rfl,q}}
  |next=>exact OI a
  |brk=>exact OI a
  |cont=>exact OI a
theorem AJ(M:Mk X.K C f)(F:aH X.prog X.w X.K X.mg X.base CX k f fd ps sp)(j:bA (k+1) X.A)(l:Gl X x)(J:X.mg x=ρ (.ref C))(T:Binds X.K fd ps ds)(hd:Vals lA ds)(hx:Passes CX X E)
 (ha:PA X (e::es) t) (g:(x==("__debug__":Str))=false:=by decide) (he:starEach (e::es) X.5=(false,eval e X.5)::starEach es X.5:=by rfl) (hpl:(backTo pos (starEach es X.5)).any (·.1)=false:=by rfl) :
 PE X (.Call (.Name x p) (e::es) [] pos) (C1 C sp lA E t):=by
 refine{?_};intro a s σ H Q I h;refine Qc (eA I l J ?_ g);refine Qz (h₀:=X.base) I.ok.mod.BU M.kp (bb (ha pos a s σ H _ I h) λc d ⟨i,m,b,r,q⟩=>{b.dC,?_}) he hpl;exact rY M F j T hd hx b r q
theorem rZ(M:Mk X.K C f)(F:aH X.prog X.w X.K X.mg X.base CX k f fd ps sp)(j:bA (k+1) X.A)(l:Gl X x)(r:X.mg x=ρ (.ref C))(J:Binds X.K fd ps ds)(hd:Vals lA ds)(hx:Passes CX X E)
 (g:(x==("__debug__":Str))=false:=by decide):PE X (.Call (.Name x p) [] [] pos) (C1 C sp lA E nU):=by
 refine{?_};intro a s σ H Q I h;refine Qc (eA I l r ?_ g);exact UM I.dC M.kp (rY (us:=[]) M F j J hd hx I .nil h)
end
section
variable{κ:Type}[DecidableEq κ]
theorem qo{kvs:List (κ×V)}{k:κ}{v:V}(h:dO kvs k=ρ v):k∈kvs.map (·.1):=by
 have q:(kvs.any λa=>decide (a.1=k))=true:=by
  rw[j4,h]
  all_goals rfl
 let{p,b,e}:=PR.mp q
 exact Ol.mpr {p,b,of_decide_eq_true e}
end
section
variable{X:Cx}{rest:List Stmt}{u:TS}{pos:Pos}
theorem yJ(g:X.N.Nodup)(hi:X.N[i]?=ρ x)(hx:X.env.scope.names.lookup x=ρ .local)(l:wo X rest u):q8 X (.Assign [.Name x o] (.Constant (.str z) j p) pos::rest) (yv (wm (tC (.str z)) (gi i)) u):=by
 refine{?_};intro a s σ H D I h;refine Pw (Qm (Rx ?_) rfl);refine wpAny_with_toks (n:=1) (s:={s with toks:=s.toks+1}) (Nat.le_add_left 1 _) (dP (I.tok (s.toks+1)) g hi (.inl hx) (v:=.str z) {_,rfl} (λb c=>?_) (.inr hx));intro d;exact l a b _ H D c d h
theorem mD(h:k∉mv.map (·.1)):dO (bM mv) (Ou k:Key)=τ:=by
 cases q:dO (bM mv) (Ou k:Key) with
 |none=>rfl
 |some v=>
  have:=qo q;unfold bM at this;rw[OS]at this
  let{m,a,e}:=Ol.mp this
  have b:m.1=k:=Rb e;exact absurd (Ol.mpr ⟨m,a,b⟩) h
theorem ph(f:Str->V)(h:k∉g):dO (k6 f g) (Ou k:Key)=τ:=by
 cases q:dO (k6 f g) (Ou k:Key) with
 |none=>rfl
 |some v=>
  have:=qo q;unfold k6 at this;rw[OS]at this
  let{m,a,e}:=Ol.mp this
  have b:m=k:=Rb e;subst b;exact absurd a h
end
section
variable{X:Cx}{t u:TS}{pos:Pos}
theorem aG{c:Expr}{a b:List Stmt}{g:TT}(hc:PT X c g)(ha:q8 X a t)(l:q8 X b u):PS X (.If c a b pos) (F4 g t u):=by
 refine{?_};intro e s σ H D I h;refine wpAny_If (bb (hc e s σ H _ I h) λd f ⟨i,j,k⟩=>?_)
 cases d with
 |true=>exact ha e f σ i D j k
 |false=>exact l e f σ i D j k
end
section
variable{prog:Om}{w:World}{A:Around}{R:S1->Shared->Prop}{s:Shared}
theorem pj(I:Nat->Shared->Prop)
 (C:∀n s,I n s->wpAny (model prog w) A (pyNext it) (λr g=>match r with
   |none=>R (.ok .next) g
   |some v=>wpAny (model prog w) A (RY target it v) (λ_ j=>wpAny (model prog w) A (assign target env v) (λ_ o=>
     wpAny (model prog w) A (forIn J true λc r=>if r=true then do let ok <-isTrue c env (eval c env);pure (R1 ok) else pure (R1 r)) (λok l=>
      if ok=true then wpAny (model prog w) A (eval T env) (λx p=>
       wpAny (model prog w) A (call (.builtin "list.append") [U,x]) (λ_ t=>∃m,m<n/\I m t) (notedBy (model prog w) A env λe s'=>R (.error e) s') p) (notedBy (model prog w) A env λe s'=>R (.error e) s') l
      else ∃m,m<n/\I m l) (notedBy (model prog w) A env λe s'=>R (.error e) s') o) (notedBy (model prog w) A env λe s'=>R (.error e) s') j) (notedBy (model prog w) A env λe s'=>R (.error e) s') g) (notedBy (model prog w) A env λe s'=>R (.error e) s') s)
 (n:Nat) (h:I n s) :
 codeAny (model prog w) A (.compLoop (.ListComp T [⟨target,iter,J,0⟩] scope pos) 0 it U env) R s:=by
 refine codeAny_loop rfl I (λn s u=>?_) n h;show wpAny _ A ((compTurn (.ListComp T [⟨target,iter,J,0⟩] scope pos) 0 it U env).onRaise (λx=>do noteFrame x env;theTreesLotGoes x)) _ _ s;refine wpAny_noted ?_;rw[compTurn_list];refine O6 (SY (O6 (OB (C n s u) (λr g b=>?_) λ_ _ a=>a)))
 cases r with
 |none=>exact Oo b
 |some v=>
  refine O6 (OB b (λ_ j f=>?_) λ_ _ a=>a);refine O6 (OB f (λ_ o i=>O6 (OB i (λok l d=>?_) λ_ _ a=>a)) λ_ _ a=>a)
  cases ok with
  |false=>exact Oo ⟨rfl,d⟩
  |true=>
   exact O6 (O6 (OB d (λx p k=>O6 (OB k (λ_ t q=>Oo (Oo ⟨rfl,q⟩)) λ_ _ a=>a)) λ_ _ a=>a))
end
section
variable{X:Cx}{ta:TE}{a b:Expr}{pos:Pos}
theorem bE(g:ie X (Pj op) r)(ha:PE X a ta)(j:PE X b l)(h:op≠.In:=by decide)(I:op≠.NotIn:=by decide):PT X (.Compare a [op] [b] pos) (va (oF r ta l)):=hO g ha j (fv _ h I)
end
section
variable{X:Cx}{k:Nat}{f:Addr}{fd:P0}{ps:List Str}{sp:Sp}
theorem AK(F:aH X.prog X.w X.K X.mg X.base (oY X.prog X.w) k f fd ps sp)(j:bA k X.A)(l:Binds X.K fd ps [])
 (I:Inv X g σ H s) (r:Vals vs us) (h:sp vs H Q E):wpAny (model X.prog X.w) X.A (call (.ref f) us) (EP X g σ Q) (HB X g σ E) s:=by
 have hl:(us++[]).9=ps.9:=by rw[Pq,<-r.9];exact F.len _ _ _ _ h
 have a:=l s us I.dC hl;rw[Pq]at a;refine Qw (Qy (F.run X.A X.stack s H {us,[]} us vs Q E j I.AA a r h) λr c b=>?_)
 cases r with
 |error e=>exact⟨H,s,I,b⟩
 |ok fl=>
  cases fl with
  |ret u=>exact I.after b
  |next=>exact OI b
  |brk=>exact OI b
  |cont=>exact OI b
end
section
variable{C:Addr}{sp:Sp}{x m:Str}{ta:TE}{t:TA}
noncomputable def Df(C:Addr)(m:Str)(sp:Sp)(ta:TE)(t:TA):Eu:=λE σ H Q=>ta σ H λx H1=>Je C m x H1 (t σ H1 λvs H2=>sp (x::vs) H2 Q E)
end
section
variable{X:Cx}{pins:List (Addr×Obj)}{σ:St}{H:Hp}{s:Shared}{x:Addr}{φ:Heap->Prop}
theorem Inv.del(I:Inv X pins σ H s)(hx:H x=ρ (.ext φ)):Inv X pins σ (_L.del H x) s:=by
 have ne:∀{b:Addr} {o:HO},H b=ρ o->(∀ψ,o≠.ext ψ)->b≠x:=λe n z=>by rw[z,hx]at e;exact n φ (Oc e).symm
 have d:∀{b:Addr},H b=τ->_L.del H x b=τ:=λ{b} e=>by
  by_cases z:b=x
  .rw[z];exact cD
  .rw[dm z];exact e
 have u:=I.base;refine{I.ok,I.os,I.bare,{u.keep,u.slot,λb o q n f=>d (u.free b o q n f),u.there,λb g q=>?_,λb o v q=>?_,λb ps q=>?_},I.loc,I.cell,d I.free,λy c e=>d (I.da y c e),λp h=>?_,λa o e=>?_,I.len}
 .have e:=u.iZ b g q;rw[dm (ne e λψ z=>by cases z)];exact e
 .have e:=u.iB b o v q;rw[dm (ne e λψ z=>by cases z)];exact e
 .let{m,e}:=u.j0 b ps q
  exact{m,by rw[dm (ne e λψ z=>by cases z)];exact e}
 .let{a1,a2,a3}:=I.pin p h
  exact{a1,d a2,a3}
 .have i:H a=ρ o:=by
   by_cases z:a=x
   .rw[z,cD]at e;cases e
   .rw[dm z]at e;exact e
  refine(I.aI a o i).iJ (λb u _ q=>q) (λb q=>?_) λb g q=>?_
  .rw[dm (ne q λψ z=>by cases z)];exact q
  .rw[dm (ne q λψ z=>by cases z)];exact q
end
section
variable{X:Cx}{a b:Expr}{ta tb:TE}{pos:Pos}{rest:List Expr}
theorem gz(ha:PE X a ta)(j:PE X (.BoolOp .And (b::rest) pos) tb):PE X (.BoolOp .And (a::b::rest) pos) (Ex ta tb):=by
 refine{?_};intro d s σ H Q I h;refine BoolOp_and (bb (ha d s σ H _ I h) λv i ⟨x,f,g,k,e⟩=>?_)
 let{c,rfl,e}:=e
 cases k;refine Ql ?_
 cases c with
 |true=>exact j d i σ f Q g e
 |false=>exact{.bl false,f,g,rfl,e}
end
section
variable{P:Om}{w:World}{H:Hp}{h h':Heap}{x e:Addr}{o':HO}
theorem fw.write(ok:fw P w H h)(g:Ee (H x))(he:e=x\/H e=ρ (.own x))(k:∀b u,b≠e->h.get? b=ρ u->h'.get? b=ρ u)(l:∃u,h'.get? e=ρ u)
 (new:b6 P w (upd H x o') h' x o'):fw P w (upd H x o') h':=λb u q=>by
 have d:∀c y,H c=ρ (.own y)->c≠x:=λc y r z=>by subst z;rw[r]at g;exact g
 have f:∀c i,H c=ρ (.tup i)->c≠x:=λc i r z=>by subst z;rw[r]at g;exact g
 by_cases j:b=x
 .subst j;rw[a5]at q;cases q;exact new
 .rw[a8 j]at q
  by_cases a:b=e
  .have m:H b=ρ (.own x):=by
    rcases he with z |z
    .exact absurd (a.trans z) j
    .rw[a];exact z
   rw[q]at m;cases m
   let{v,n}:=l
   exact{v,by rw[a];exact n}
  .refine(ok b u q).iJ (λc v hc r=>k c v ?_ r) (λc r=>by rw[a8 (d c b r)];exact r) λc i r=>by rw[a8 (f c i r)];exact r
   rcases hc with rfl |hc
   .exact a
   .rintro rfl;rcases he with z |z
    .exact d c b hc z
    .rw[hc]at z;cases z;exact j rfl
end
section
variable{P:Om}{w:World}{H:Hp}{h:Heap}{x C d t:Addr}
theorem HM(e:h.get? x=ρ (ve C d t)):b6 P w H h x (XD x C d):={⟨t,e⟩,{_,e},λc f ⟨a,b⟩ k=>{a,k _ b}}
end
section
variable{P:Om}{w:World}{H:Hp}{h:Heap}{a C dx:Addr}{fs:List (Str×V)}
theorem lT(aI:fw P w H h)(e:H a=ρ (.ins C dx fs)):∃g,tK h a dx C g/\(∀f,gd (fs.lookup f) (g f))/\V6 g (fs.map (·.1))/\fs.9<=1000/\H dx=ρ (.own a):=by
 let{d,z,ne,ob,g,n,r,q}:=(show b6 P w H h a (.ins C dx fs) from aI a _ e)
 exact{g,⟨ob,n,ne⟩,r,q,z,d}
end
section
variable{X:Cx}{pins:List (Addr×Obj)}{σ:St}{H:Hp}{s:Shared}{a C dx:Addr}{fs:List (Str×V)}{f:Str}{v:V}{A:Around}{E:Value->Shared->Prop}
theorem ug{Q:Value->Shared->Prop}(I:Inv X pins σ H s)(e:H a=ρ (.ins C dx fs))(c:pR X.K C)(n:aP X.K C f)(l:fs.lookup f=ρ v)
 (h:∀u s',Inv X pins σ H s'->RelV v u->Q u s'):wpAny (model X.prog X.w) A (getAttr (.ref a) f b) Q E s:=by
 let{g,O,r,_,_,_}:=lT I.aI e
 let{u,i,d}:=gd.lN (v:=v) (o:=g f) (by grind)
 exact get_map I.dC O (c.get f) c.hd n i (oG d) (h u _ (I.tok _) d)
theorem iL{Q:Value×List Value->Shared->Prop}(I:Inv X pins σ H s)(e:H a=ρ (.ins C dx fs))(c:pR X.K C)(k:yo X.K C m g)(l:fs.lookup m=τ)
 (h:Q (.ref g,[.ref a]) s):wpAny (model X.prog X.w) A (Ry (.ref a) m pl) Q E s:=by
 let{b,O,r,_,_,_}:=lT I.aI e
 have hn:b m=τ:=gd.none_of (by grind);exact yF I.dC O (c.get m) k.at_ k.fn hn h
end
section
variable{X:Cx}{CX:we}{k:Nat}{f C:Addr}{fd:P0}{ps:List Str}{sp:Sp}{lA:List V}{ds:List Value}{E:XK}{m:Str}{pos apos:Pos}{e o:Expr}{es:List Expr}{ta:TE}{t:TA}
theorem lU(he:PE X o ta)(c:pR X.K C)(j:yo X.K C m f)(F:aH X.prog X.w X.K X.mg X.base CX k f fd ps sp)(T:bA k X.A)(U:Binds X.K fd ps ds)(hd:Vals lA ds)(hx:Passes CX X E)(ha:PA X (e::es) t)
 (g:starEach (e::es) X.5=(false,eval e X.5)::starEach es X.5:=by rfl) (hpl:(backTo pos (starEach es X.5)).any (·.1)=false:=by rfl)
 (ht:eval (.Call (.Attribute o m apos) (e::es) [] pos) X.5=(do
   let J <-eval o X.5
   standAt apos.atName
   let (f,first) <-holding [J] (Ry J m pl)
   Tq pos f first (backTo pos (starEach (e::es) X.5)) (backToKw pos (QJ [] X.5))):=by rfl) :
 PE X (.Call (.Attribute o m apos) (e::es) [] pos) (vb C m sp lA E ta t):=by
 refine{?_};intro b s σ H Q I h;refine Rj (pl:=pl) (bb (he b s σ H _ I h) λu n ⟨x,p,d,v,a,B,fs,ex,y,l,q⟩=>?_) ht;subst ex;obtain rfl:u=Oh a:=v;refine iL d y c j l ?_;refine Qz (first:=[.ref a]) (h₀:=X.base) I.ok.mod.BU j.kp (bb (ha pos b n σ p _ d q) λus D ⟨vs,G,i,r,z⟩=>{i.dC,?_}) g hpl;exact ue (us:=.ref a::us) (vs:=.ref a::vs) F T U hd hx i (.cons rfl r) z
theorem yK(he:PE X o ta)(c:pR X.K C)(g:yo X.K C m f)(F:aH X.prog X.w X.K X.mg X.base CX k f fd ps sp)(r:bA k X.A)(J:Binds X.K fd ps ds)(hd:Vals lA ds)(hx:Passes CX X E)
 (T:eval (.Call (.Attribute o m apos) [] [] pos) X.5=(do
   let j <-eval o X.5
   standAt apos.atName
   let (f,first) <-holding [j] (Ry j m pl)
   Tq pos f first (backTo pos (starEach [] X.5)) (backToKw pos (QJ [] X.5))):=by rfl) :
 PE X (.Call (.Attribute o m apos) [] [] pos) (vb C m sp lA E ta nU):=by
 refine{?_};intro b s σ H Q I h;refine Rj (pl:=pl) (bb (he b s σ H _ I h) λu n ⟨x,p,d,e,a,t,fs,ex,i,l,q⟩=>?_) T;subst ex;obtain rfl:u=Oh a:=e;refine iL d i c g l ?_;exact UM (first:=[.ref a]) d.dC g.kp (ue (us:=[.ref a]) (vs:=[.ref a]) F r J hd hx d (.cons rfl .nil) q)
theorem yL{pl:Sem Bool}(he:PE X.BW o ta)(c:pR X.K C)(j:yo X.K C m f)(F:aH X.prog X.w X.K X.mg X.base (oY X.prog X.w) k f fd ps sp)(T:bA k X.A)(U:Binds X.K fd ps [])(ha:PA X.BW (e::es) t)
 (g:starEach (e::es) X.5=(false,eval e X.5)::starEach es X.5:=by rfl) (hpl:(backTo pos (starEach es X.5)).any (·.1)=false:=by rfl)
 (ht:eval (.Call (.Attribute o m apos) (e::es) [] pos) X.5=(do
   let J <-eval o X.5
   standAt apos.atName
   let (f,first) <-holding [J] (Ry J m pl)
   Tq pos f first (backTo pos (starEach (e::es) X.5)) (backToKw pos (QJ [] X.5))):=by rfl) :
 Jq X (.Call (.Attribute o m apos) (e::es) [] pos) (Df C m sp ta t):=by
 refine{?_};intro b s σ H Q E I h;refine Rj (pl:=pl) (D8 (bb (he b s σ H _ (I.iD _) h) λu n ⟨x,p,d,v,a,D,fs,ex,y,l,q⟩=>?_)) ht;have d:=d.cV;subst ex;obtain rfl:u=Oh a:=v;refine iL d y c j l ?_;refine Qz (first:=[.ref a]) (h₀:=X.base) I.ok.mod.BU j.kp (D8 (bb (ha pos b n σ p _ (d.iD _) q) λus G z=>?_)) g hpl
 let{vs,L,i,r,B}:=z.cV
 exact{i.dC,AK (us:=.ref a::us) (vs:=.ref a::vs) F T U i (.cons rfl r) B}
end
section
variable{X:Cx}{e:Expr}{f:Str}{pos:Pos}{ta:TE}
theorem cI(he:PE X e ta)(g:QX e f X.env (eval e X.5)=eval e X.5):PE X (.Attribute e f pos) (GR X.K ta f):=by
 refine{?_};intro b s σ H Q I h;refine vx g (bb (he b s σ H _ I h) λu p ⟨x,d,i,j,a,C,r,fs,v,ex,k,c,n,l,q⟩=>?_);subst ex;obtain rfl:u=Oh a:=j;exact ug i k c n l λt w m o=>⟨v,d,m,o,q⟩
end
section
variable{fs ex:List Addr}{H:Hp}{h h':Heap}{x e:Addr}{o:HO}
theorem Un.write(g:Ee (H x))(he:e=x\/H e=ρ (.own x))(k:∀b u,b≠e->h.get? b=ρ u->h'.get? b=ρ u)(j:∃u,h'.get? e=ρ u):Un fs ex H (upd H x o) h h':=by
 have hx:∀b,H b=τ->b≠x:=λb n z=>by subst z;rw[n]at g;exact g
 have d:∀b,H b=τ->b≠e:=λb n z=>by
  subst z;rcases he with r |r
  .grind
  .grind
 have c:∀b u,H b=ρ u->¬Ee (ρ u)->b≠x:=λb u q f z=>by subst z;rw[q]at g;exact f g
 refine{λb u q n _ _=>k b u (d b n) q,λb u q n _ _=>{u.slots,k b u (d b n) q},λb u q n _=>by rw[a8 (hx b n)];exact n,λb u q _=>?_,
  λb i q=>by rw[a8 (c b _ q λz=>z)];exact q,λb u i q=>by rw[a8 (c b _ q λz=>z)];exact q,λb ps q=>{#[],by rw[a8 (c b _ q λz=>z),q];simp}}
 by_cases a:b=e
 .subst a;exact j
 .exact{u,k b u a q}
end
section
variable{X:Cx}{pins:List (Addr×Obj)}{σ:List (Option V)}{H:Hp}{s:Shared}{h':Heap}
theorem Inv.write(I:Inv X pins σ H s)(j:Ee (H x))(he:e=x\/H e=ρ (.own x))(k:∀b u,b≠e->s.heap.get? b=ρ u->h'.get? b=ρ u)(g:∃u,h'.get? e=ρ u)
 (new:b6 X.prog X.w (upd H x o) h' x o):Inv X pins σ (upd H x o) {s with heap:=h',toks:=t'}:=I.un (Un.write j he k g) (I.aI.write j he k g new)
end
section
variable{X:Cx}{pins:List (Addr×Obj)}{σ:St}{H:Hp}{s:Shared}{l:Addr}{xs ys:List V}
theorem Inv.Fa{g its':List Value}{n:Nat}{f:Array Value->Array Value}{t':Nat}(I:Inv X pins σ H s)(j:H l=ρ (.lst xs))
 (e:s.heap.get? l=ρ {cls:=.type "list",data:=.seq g.toArray n}) (o:f g.6=its'.6) (p:Vals ys its') (r:ys.9<=sizeLine) :
 Inv X pins σ (upd H l (.lst ys)) {s with heap:=s.heap.update l (Obj.mapSeq f),toks:=t'}:=by
 have q:=PySem.IsL.update e f;rw[o]at q;refine I.write (x:=l) (e:=l) (by rw[j];exact trivial) (.inl rfl) (λc u a b=>(P8 s.heap (Obj.mapSeq f) (Pz a)).trans b) {_,q} ?_;exact{r,its',_,p,q}
theorem hQ:Jo X "list.append" pT:=by
 intro b s σ H x i v j Q I d f h
 let{l,k,y,rfl,rfl,c,m,q}:=h
 cases d
 let{u,rfl,g}:=f.one
 let{z,a,n,r,hl,e}:=I.yC c
 refine Tf RM {_,e,rfl} F.entry_list_append (F.args_list_append_2 _ _) (PySem.list_append l a.toArray n u (by grind)) {e,?_};refine{.non,_,I.Fa (its':=a++[u]) c e (by simp) (r.append (.cons g .nil)) ?_,rfl,q};rw[Oy,RW]
 lia
theorem wC:Jo X "list.extend" Ao:=by
 intro g s σ H x A v B Q I j k h
 let{l,b,C,D,rfl,rfl,i,m,E,q}:=h
 cases j
 let{u,rfl,o}:=k.one
 cases o
 let{z,c,n,r,hl,e}:=I.yC i
 let{G,a,p,t,w,y}:=I.yC m
 have f:c.toArray.size+a.toArray.size<=sizeLine:=by rw[OO,OO];lia
 have d:¬(!c.toArray.isEmpty&&Rt (c.toArray.size+a.toArray.size))=true:=by
  rw[xZ f,RD];exact Oj
 refine Tf Ui {_,e,rfl} F.entry_list_extend (F.args_list_extend_2 _ _)
  (AutoSeq1.list_extend_list_list_0 l c.toArray n b a.toArray p d (by rw[OO];lia) ()) {e,y,?_}
 refine{.non,_,I.Fa (its':=c++a) i e (by simp) (r.append t) ?_,rfl,q};rw[Oy]
 lia
end
section
variable{X:Cx}{pins:List (Addr×Obj)}{σ:St}{H:Hp}{s:Shared}{a:Addr}{y v:V}{u r:Value}{A:Around}{E:Value->Shared->Prop}
theorem wD{Q:Value->Shared->Prop}(C:A.units+1<Rq)(I:Inv X pins σ H s)(g:eJ H a y (ρ v))(t:RelV y u)(h:∀j s',Inv X pins σ H s'->RelV v j->Q j s') :
 wpAny (model X.prog X.w) A (getItem (.ref a) u) Q E s:=by
 rcases g with⟨d,k,e,f,l⟩ |⟨d,k,b,e,f,n,l⟩
 .subst f
  let{z,hd,q,rel,i}:=p0 I.aI e
  let{j,hw,c}:=gd.lN (v:=v) (o:=valueAt q k) (by rw[l];exact rel.val k)
  exact wpAny_getItem_of (rD t) i.mapOf hw (h j _ (I.tok _) c)
 .subst f;cases(show u=Oh b from t)
  let{z,hd,r,rel,i}:=vo I.aI e
  let{j,hw,c}:=gd.lN (v:=v) (o:=(atKey r k).map (·.2)) (by rw[l];exact rel.val k)
  let{p,x,m}:=U0.mp hw
  refine wpAny_getItem_heap (SJ C) (q9 I.aI n) i x ?_;rw[m];exact h j _ (I.tok _) c
theorem qp(I:Inv X pins σ H s)(g:Ee (H a))(j:S4 a s.heap h')(he:∃q,h'.get? a=ρ q)(new:b6 X.prog X.w (upd H a ob) h' a ob) :
 Inv X pins σ (upd H a ob) {s with heap:=h',toks:=t'}:=
 I.write (x:=a) (e:=a) g (.inl rfl) (λb q c z=>(j.2 b c).trans z) he new
theorem wF{Q:Unit->Shared->Prop}(J:A.units+1<Rq)(I:Inv X pins σ H s)(g:nV H a y v T)(t:RelV y u)(C:RelV v r)(h:∀s',Inv X pins σ T s'->Q .unit s') :
 wpAny (model X.prog X.w) A (setItem (.ref a) u r) Q E s:=by
 rcases g with⟨d,k,e,j,l,m⟩ |⟨d,k,b,e,j,x,l,m⟩
 .subst j m
  let{z,hd,G,rel,n}:=pa I.aI e
  have o:G.9<=sizeLine:=by rw[<-rel.9];exact z
  have hl:(putK d k v).9<=sizeLine:=by have:=gk d k v;lia
  refine wpAny_setItem_pairs (hsz:=o) (rD t) n λB f p=>h _ ?_;have L:∃q,B.get? a=ρ q:=let ⟨q,_,_,i,_⟩:=f;⟨q,i⟩
  exact qp I (by rw[e];exact PN) p L (yr hl hd (rel.put k C) f)
 .subst j m;cases(show u=Oh b from t)
  let{z,hd,M,rel,n}:=EY I.aI e
  have o:M.9<=sizeLine:=by rw[<-UC rel];exact z
  have hl:(putK d k v).9<=sizeLine:=by have:=gk d k v;lia
  refine wpAny_setItem_heap (hsz:=o) (SJ J) (q9 I.aI x) n λB f p=>h _ ?_
  let{q,N,O,i,R,S,U,_,V}:=f
  refine qp I (by rw[e];exact PN) p ⟨q,i⟩ {hl,hd,_,(rel.put k x C).keeps λc Y D=>?_,q,N,O,i,R,S,U,V};rw[a8 (Ed D e (λz=>nomatch z))];exact D
end
section
variable{X:Cx}{pins:List (Addr×Obj)}{σ:St}{H:Hp}{s₂:Shared}{scope:Qr}{x:Str}{xs ys:List Str}{ix:List Nat}{cl:List (Str×Addr)}{fp:List Addr}{L:Addr}
theorem pk{tn:Nat->Heap->Prop}{Qd:Addr->Hp->Prop}{RR:Value->Addr->S1->Shared->Prop}{E:Value->Shared->Prop}
 (hc:X.calm=true) (B:d2 X scope x ys ix) (I:Inv X pins σ H s₂) (T:Turn X.prog X.w X.K tg J fp it tn) (Fb:tn 0 s₂.heap) (U:∀b∈fp,ib X pins H b)
 (C7:∀y c,cl.lookup y=ρ c->X.env.cells.lookup y=ρ c) (HN:∀y∈scope.names,y.2=.free->∃c,cl.lookup y.1=ρ c)
 (ht:∀L s H ex pn,AF (aX X scope (xs++ys) cl L s H ex pn) ifs tt) (he:∀L s H ex pn,PE (aX X scope (xs++ys) cl L s H ex pn) elt te)
 (hg:∀L s H ex pn,PG (aX X scope (xs++ys) cl L s H ex pn) tg g) (hw:∀l,H l=τ->vg g xs.length J l (pick σ ix) tt te H (Qd l))
 (HP:∀D L H' s' m,Inv X pins σ H' s'->s'.heap.Ns L m->H' L=τ->L≠X.env.locals->X.s₀.8<=L->(∀y c,X.env.cells.lookup y=ρ c->c≠L)->(∀p∈X.pn++pins,p.1≠L)->Qd D H'->RR (.ref D) L (.ok .next) s') :
 wpAny (model X.prog X.w) X.A (newList []) (λacc t=>wpAny (model X.prog X.w) X.A (Sz scope X.env.globals cl [] X.env.qual τ .none (ρ X.5)) (λyM s₄=>
  codeAny (model X.prog X.w) X.A (.compStart (.ListComp elt [⟨tg,iter,ifs,0⟩] scope pos) 0 (.ref it) acc {yM with scope:=relabel scope X.5}) (RR acc yM.locals) s₄) E t) E s₂:=by
 refine T3 (wpAny_newFunctionEnv B.yc (by intro y hy;simp at hy) (λk j a=>?_) B.kind);dsimp only at j a ⊢;generalize O:s₂.heap.push {cls:=.type "list",dict:=τ,data:=.seq ([]:List Value).toArray}=C at j a ⊢;have hC:C.7=s₂.8+1:=by rw[<-O,Q0]
 have Fc:s₂.heap.objs.size≠C.7:=by rw[hC];exact Oe (Qt _)
 have f:s₂.8<=C.7:=by rw[hC];exact PX _
 have old:∀b o,s₂.heap.get? b=ρ o->k.get? b=ρ o:=λb o e=>a.extBut b o (Oe (O7 (Oa e) f)) (O9 _ (O ▸ O9 _ e));have Dg:k.get? s₂.8=ρ {cls:=.type "list",data:=.seq ([]:List Value).toArray}:=a.extBut _ _ Fc (O9 _ (O ▸ Oq _ rfl));have Q:∀b∈fp,b<s₂.8:=λb h=>let ⟨o,e,_⟩:=T.obj 0 _ Fb b h;Oa e
 have Ld:∀b∈fp,∀o,s₂.heap.get? b=ρ o->k.get? b=ρ o:=λb _ o e=>old b o e;have Fd:tn 0 k:=T.keep 0 _ _ Fb Ld
 let{W,{m0,w0},turn}:=hw s₂.heap.objs.size (I.aI.fresh (Ob _))
 have N:∀t:Shared,t={s₂ with heap:=k,toks:=s₂.toks+([]:List (Str×Value)).length} ->
  codeAny (model X.prog X.w) X.A (.compLoop (.ListComp elt [⟨tg,iter,ifs,0⟩] scope pos) 0 (.ref it) (.ref s₂.8) (compEnvC scope cl C.objs.size X.5))
   (RR (.ref s₂.8) C.7) t:=by
  rintro t rfl;have I0:=yE (xs:=xs) (tk:=s₂.toks+([]:List (Str×Value)).length) (n₀:=0) (m₁:=_) (L:=C.7) B I U Q f C7 HN old j rfl Fc Dg
  refine pj (env:=compEnvC scope cl C.objs.size X.5)
   (λn s'=>∃i G vs H',vs.9=xs.9/\Inv (aX X scope (xs++ys) cl C.objs.size s₂ H fp (X.pn++pins)) [] (vs++pick σ ix) H' s'/\tn i s'.heap/\(∀b∈fp,H' b=τ)/\W i n G H') ?_ m0
   ⟨0,[],_,_,RV,I0,Fd,λb h=>by rw[a8 (Oe (Q b h))];exact(U b h).1,w0⟩
  rintro n s3 ⟨i,G,vs,H3,hv,I3,Fe,Ff,w3⟩
  let{Fg,alt}:=turn i n G H3 w3
  have M:∀{H':Hp},(∀b∈fp,H' b=τ)->∀b∈fp,ib (aX X scope (xs++ys) cl C.objs.size s₂ H fp (X.pn++pins)) [] H' b:=λhn b h=>
   {hn b h,Oe (O7 (Q b h) f),λhm=>by
     rcases Oi.mp (I.gr b hm) with z |z
     .exact(U b h).2.1 z
     .exact(U b h).2.2.1 z,.inl h,λy c e=>(U b h).2.2.2.2.1 y c (C7 y c e),λp hp=>(U b h).2.2.2.2.2 p (by simpa [aX] using hp)}
  rcases alt with⟨stop,qd⟩ |⟨go,hsz,step⟩
  .refine bb (T.done (aX X scope (xs++ys) cl C.objs.size s₂ H fp (X.pn++pins)) rfl rfl rfl hc i [] s3 _ H3 _ I3 (M Ff) Fe stop) λr s4 ⟨hr,Y⟩=>?_;subst hr
   let{m,hn,_}:=Y.loc
   refine HP s₂.heap.objs.size C.objs.size H3 s4 m ?_ hn Y.free (Py (O7 I.lt f)) (Od I.sz f) (λy c e=>?_) (λp hp=>?_) qd
   .exact I.oZ Y.os Y.base Y.aI Y.bare λb h=>{(U b h).2.2.2.1,(U b h).2.1,(U b h).2.2.2.2.1,(U b h).2.2.2.2.2}
   .let{v,o,q,d}:=I.cell y c e
    exact Oe (O7 (Oa q) f)
   .exact Oe (O7 (Oa (I.pin p hp).1) f)
  .refine bb (T.item (aX X scope (xs++ys) cl C.objs.size s₂ H fp (X.pn++pins)) rfl rfl rfl hc i [] s3 _ H3 _ I3 (M Ff) Fe go) λr s4 ⟨u,hr,h4⟩=>?_;subst hr;refine bb h4 λ_ s5 ⟨xv,H5,I5,r5,y5,R,F0⟩=>?_;have F1:=I5.pinned (M F0) (T.obj _ _ R);refine OB (hg _ _ _ _ _ _ s5 _ H5 xv u _ F1 r5 (step xv _ vs hv y5)) (λ_ s6 {σ6,H6,I6,⟨EB,Ju,e6⟩,q6}=>?_) λ_ _ z=>OI z;subst e6;refine OB (ht _ _ _ _ _ _ s6 _ _ _ I6 q6) (λb s7 ⟨H7,I7,q7⟩=>?_) λ_ _ z=>OI z
   have again:∀{S:St} {V:Hp} {Z:Shared},Inv (aX X scope (xs++ys) cl C.objs.size s₂ H fp (X.pn++pins)) ([]++iE fp s5.heap) S V Z ->
    Inv (aX X scope (xs++ys) cl C.objs.size s₂ H fp (X.pn++pins)) [] S V Z/\tn (i+1) Z.heap/\∀b∈fp,V b=τ:=λ{S V Z} I8=>by
    refine{I8.df,T.keep _ _ _ R λb h o e=>(I8.pin (b,o) (Ow _ (Ow _ (bU h e)))).1,λb h=>?_}
    let{o,e,d}:=T.obj _ _ R b h
    exact(I8.pin (b,o) (Ow _ (Ow _ (bU h e)))).2.1
   cases b with
   |false=>
    rw[if_neg Oj]at q7 ⊢
    let{m',hm,w7}:=q7
    let{a1,a2,a3}:=again I7
    exact{m',hm,i+1,G,EB,H7,Ju,a1,a2,a3,w7}
   |true=>
    rw[if_pos rfl]at q7 ⊢;refine OB (he _ _ _ _ _ _ s7 _ _ _ I7 q7) (λuy Z ⟨y,V,I8,r8,Fh,m',hm,w8⟩=>?_) λ_ _ z=>OI z
    refine OB (hQ (X:=aX X scope (xs++ys) cl C.objs.size s₂ H fp (X.pn++pins)) _ Z _ V (.ref s₂.8) [y] (.ref s₂.8) [uy] (λ_ H9=>H9=upd V s₂.heap.objs.size (.lst (G++[y]))) I8 rfl (.cons r8 .nil) {_,G,y,rfl,rfl,Fh,hsz,rfl})
     (λ_ s9 {v9,H9,I9,_,e9}=>?_) λ_ _ z=>OI z
    subst e9
    let{a1,a2,a3}:=again I9
    exact{m',hm,i+1,G++[y],EB,_,Ju,a1,a2,a3,w8}
 exact U6 (N _ rfl) (T.self X.A 0 _ _ _ Fd (N _ rfl))
theorem yN{C:It->Addr->St->Hp->(Hp->Prop)->Prop}(hc:X.calm=true)(B:d2 X scope x ys ix)(hg:∀cl L s H ex pn,PG (aX X scope (xs++ys) cl L s H ex pn) U g)(hC:∀J l j H Q,C J l j H Q->vg g xs.length J l j tt te H Q)(hi:PI X U iter wi)
 (ht:∀cl L s H ex pn,AF (aX X scope (xs++ys) cl L s H ex pn) p tt) (he:∀cl L s H ex pn,PE (aX X scope (xs++ys) cl L s H ex pn) r te)
 (hs:∀v,Q4 iter X.env v=pure v:=by intro _;rfl):PE X (.ListComp r [⟨U,iter,p,0⟩] scope pos) (λσ H Q=>wi σ H λJ H1=>∀l,H1 l=τ->C J l (pick σ ix) H1 (λH2=>Q (.ref l) H2)):=by
 refine{?_};intro pins s σ H Q I h
 let{cl,a,d,f}:=eK (scope:=scope) (env:=X.5) (λy G i=>I.ok.has y.1 (B.free y G i))
 rw[eval_ListComp];refine Rz (use:=τ) rfl hs a B.kind B.names (bb (hi pins s σ H _ I h) λZ s1 k=>bb k λM s2 n=>?_)
 let{it,fp,tn,J,H2,e,N,T,t,f2,hw}:=n
 subst e;refine pk (RR:=λu C=>compPost (model X.prog X.w) X.A X.xe τ (EP X pins σ Q) u C) (Qd:=λl z=>Q (.ref l) z) hc B N T t f2 d f (ht cl) (he cl) (hg cl) (λl h=>hC _ _ _ _ _ (hw l h)) ?_;intro D L z O m R hn c k n S V q;exact{m,hn,λh' E=>{.ref D,z,R.turned (it:=L) (t':=O.toks) (λb o Y e=>(E.2 b Y).trans e) c k (.inr n) S V,rfl,q}}
theorem cJ(hc:X.calm=true)(B:d2 X scope x ys ix)(hi:PI X (.Name x r) iter t)
 (I:∀cl L s H ex pn,AF (aX X scope (x::ys) cl L s H ex pn) g o) (he:∀cl L s H ex pn,PE (aX X scope (x::ys) cl L s H ex pn) j p)
 (T:∀v,Q4 iter X.env v=pure v:=by intro _;rfl):PE X (.ListComp j [⟨.Name x r,iter,g,0⟩] scope pos) (ya t ix o p):=
 yN (C:=λJ l a H Q=>j2 J l a o p H Q) (xs:=[x]) hc B (vt B) (λ_ _ _ _ _=>vh) hi I he T
end
theorem AO{X:Cx}(h:Gg X pos keys values j)(g:keys.all (·.isSome)=true)(hl:keys.9=values.9)(p:keys≠[])
 (l:keys.9<=15):PE X (.Dict keys values pos) (EG j):=by
 refine{?_};intro b s σ H Q I q;have hn:=I.aI.fresh (Ob s.8);have k:=I.laid (a:=s.8) (o:=.dK []) (h':=s.heap.push {cls:=.type "dict",data:=.dict #[]}) (t':=s.toks) (λ_ _ q=>O9 _ q) (Ob _) (rJ s.heap I.big);refine wpAny_Dict_walk (knd:=aR X.prog X.w) g hl p l (bb (h b _ σ _ _ k (q _ hn)) λE G ⟨ps,J,i,rel,e,d,m,lk,n⟩=>?_);subst m
 let{r,c,t}:=mq (P:=X.prog) (w:=X.w) rel
 let{z,hd,u,v,x}:=pa i.aI e
 cases v;refine{r,c,x,λh' f y=>{.ref s.8,_,?_,rfl,n}}
 have A:(jZ [] d).9<=sizeLine:=by
  have B:=nW d [];rw[S0]at B;rw[QI];lia
 have C:∃q,h'.get? s.8=ρ q:=let ⟨q,_,_,D,_⟩:=f;⟨q,D⟩
 exact qp i (by rw[e];exact PN) y C (yr A hd (t.merge .nil) f)
theorem Inv.freeze{X:Cx}(I:Inv X g σ H s)(e:H d=ρ (.dK kvs)):∃o,s.heap.get? d=ρ o/\Inv X g σ (upd H d (.frz o (.dK kvs))) s:=by
 have ok:=I.aI d _ e
 let{z,y,f,rel,o,h,i,a,j}:=id ok
 refine{o,a,?_};exact I.write (x:=d) (e:=d) (h':=s.heap) (t':=s.toks) (by rw[e];exact trivial) (.inl rfl) (λb u _ c=>c) {_,a} ⟨a,ok⟩
section
variable{X:Cx}{scope:Qr}{x:Str}{xs ys:List Str}{ix:List Nat}
theorem s8{C:It->Addr->St->Hp->(Hp->Prop)->Prop}(hc:X.calm=true)(B:d2 X scope x ys ix)(hN:X.N.Nodup)(hy:X.N[i]?=ρ y)(r:X.env.scope.names.lookup y=ρ .local)(hg:∀cl L s H ex pn,PG (aX X scope (xs++ys) cl L s H ex pn) tg g)(hC:∀J l t H Q,C J l t H Q->vg g xs.length J l t tt te H Q)(hi:PI X tg iter wi)
 (ht:∀cl L s H ex pn,AF (aX X scope (xs++ys) cl L s H ex pn) j tt) (he:∀cl L s H ex pn,PE (aX X scope (xs++ys) cl L s H ex pn) p te)
 (HQ:QK (.ListComp p [⟨tg,iter,j,0⟩] scope pos) (ρ (.Name y py)) U.line X.5=pure true:=by rfl)
 (hs:∀v,Q4 iter X.env v=pure v:=by intro _;rfl):PS X (.Assign [.Name y py] (.ListComp p [⟨tg,iter,j,0⟩] scope pos) U) (λD σ H=>wi σ H λJ H1=>∀l,H1 l=τ->C J l (pick σ ix) H1 (λH2=>D.nx (σ.set i (ρ (.ref l))) H2)):=by
 refine{?_};intro c s σ H D I h
 let{cl,d,u,E}:=eK (scope:=scope) (env:=X.5) (λy hy G=>I.ok.has y.1 (B.free y hy G))
 rw[exec_Assign_Name_used _ _ _ _ HQ];refine O6 (SY (O6 ?_));show wpAny _ X.A (do let _ <-comprehension (.ListComp p [⟨tg,iter,j,0⟩] scope pos) scope X.env _ (newList []) false (eval iter X.5) (ρ (assign (.Name y py) X.5))) _ _ s
 refine O6 (OB (Rz (use:=ρ (assign (.Name y py) X.5)) (Q:=λ_ k=>SP X c D .next k) rfl hs d B.kind B.names
  (bb (hi c s σ H _ I h) λxv s1 n=>bb n λGf s2 M=>?_)) (λ_ k hq=>Oo (Oo hq)) λ_ _ e=>e)
 let{it,fp,tn,J,H2,e,I2,T,O,f2,hw}:=M
 subst e;refine pk (RR:=λR C=>compPost (model X.prog X.w) X.A X.xe (ρ (assign (.Name y py) X.5)) (λ_ k=>SP X c D .next k) R C) (Qd:=λl S=>D.nx (σ.set i (ρ (.ref l))) S) hc B I2 T O f2 u E (ht cl) (he cl) (hg cl) (λl h=>hC _ _ _ _ _ (hw l h)) ?_;intro D' L S k m I' hn f n M h3 h4 q;show wpAny _ X.A (assign (.Name y py) X.env (.ref D')) _ _ _;refine wpAny_assign_Name (pd I' hN hy (.inl r) (v:=.ref D') rfl (λV Y sb=>?_) (.inr r))
 let{a,Z,ha}:=sb
 have hL:L≠a:=by
  rcases ha with z |z
  .rw[z];exact n
  .exact(h3 y a z).symm
 refine{m,hn.sameBut Z hL,λh' Gk=>{_,S,Y.turned (it:=L) (t':=V.toks) (λb o hb e=>(Gk.2 b hb).trans e) f n (.inr M) h3 h4,q}}
theorem iM(hc:X.calm=true)(B:d2 X scope x ys ix)(U:X.N.Nodup)(hy:X.N[i]?=ρ y)(p:X.env.scope.names.lookup y=ρ .local)(hi:PI X (.Name x t) iter wi)
 (ht:∀cl L s H ex pn,AF (aX X scope (x::ys) cl L s H ex pn) g I) (he:∀cl L s H ex pn,PE (aX X scope (x::ys) cl L s H ex pn) j T)
 (r:QK (.ListComp j [⟨.Name x t,iter,g,0⟩] scope pos) (ρ (.Name y py)) o.line X.5=pure true:=by rfl)
 (hs:∀v,Q4 iter X.env v=pure v:=by intro _;rfl):PS X (.Assign [.Name y py] (.ListComp j [⟨.Name x t,iter,g,0⟩] scope pos) o) (D0 wi ix I T i):=
 s8 (C:=λJ l a H Q=>j2 J l a I T H Q) (xs:=[x]) hc B U hy p (vt B) (λ_ _ _ _ _=>vh) hi ht he r hs
end
section
variable{X:Cx}{o i value:Expr}{pos pos':Pos}{td ty tv:TE}
theorem d7(j:X.A.units+1<Rq)(l:PE X o td)(hi:PE X i ty)(p:Ep i):PE X (.Subscript o i pos) (Ez td ty):=by
 refine{?_};intro b s σ H Q I h;refine Ap PySem.F.slot_dict_getitem.lookup p (bb (l b s σ H _ I h) λu e ⟨x,f,k,m,n⟩=>bb (hi b e σ f _ k n) λz B ⟨y,q,d,r,a,v,ex,g,t⟩=>?_);subst ex;obtain rfl:u=Oh a:=m;exact{rQ d g,wD j d g r λC D w c=>⟨v,q,w,c,t⟩}
theorem hU(j:X.A.units+1<Rq)(l:PE X o td)(hi:PE X i ty)(p:PE X value tv)(t:QK value (ρ (.Subscript o i pos')) pos.line X.5=pure false) :
 PS X (.Assign [.Subscript o i pos'] value pos) (Ca td ty tv):=by
 refine{?_};intro b s σ H D I h;refine wpAny_Assign_Subscript (bb (p b s σ H _ I h) λr c ⟨v,d,e,f,k⟩=>bb (l b c σ d _ e k) λu m ⟨x,n,q,w,z⟩=>bb (hi b m σ n _ q z) λL M ⟨y,N,B,C,a,E,ex,g,G⟩=>?_) t;subst ex;obtain rfl:u=Oh a:=w;exact wF j B g C f λO J=>⟨σ,E,J,G⟩
end
section
variable{X:Cx}{x:Str}{p pos:Pos}{e:Expr}{es:List Expr}{t:TA}{T:String}{r:List V->Hp->VK->Prop}
theorem aL(hc:cP X (.type T) r)(j:Gl X x)(l:X.mg x=τ)(o:P7 x=ρ (.type T))(ha:PA X (e::es) t)(hn:x≠"__name__":=by decide)(g:(x==("__debug__":Str))=false:=by decide)
 (he:starEach (e::es) X.5=(false,eval e X.5)::starEach es X.5:=by rfl) (hpl:(backTo pos (starEach es X.5)).any (·.1)=false:=by rfl):PE X (.Call (.Name x p) (e::es) [] pos) (F9 r t):=by
 refine{?_};intro a s σ H Q I h;refine Qc (iI I j l o ?_ hn g);exact Q6 (bb (ha pos a s σ H _ I h) λb c ⟨d,f,i,k,m⟩=>hc a c σ f d b Q i k m) he hpl
end
section
variable{X:Cx}{pins:List (Addr×Obj)}{σ:St}{H:Hp}{s:Shared}{A:Around}{E Q:Value->Shared->Prop}{c:Value}{b:Bool}
theorem k9(I:Inv X pins σ H s)(g:RelV x u)(ty:dE X.K H x t)(e:Uj X.K t c=ρ b)(h:∀tk,Q (.bool b) {s with toks:=tk}) :
 wpAny (model X.prog X.w) A (call (.builtin "isinstance") [u,c]) Q E s:=by
 cases ty with
 |non=>cases(show u=Pm from g);exact Pr PySem.W.kitx_none I.dC PN e (λz=>nomatch z) h
 |bl y=>cases(show u=Td y from g);exact Pr PySem.W.kitx_bool I.dC PN e (λz=>nomatch z) h
 |int i=>let{t,q}:=(show ∃t,u=TF i t from g);cases q;exact Pr PySem.W.kitx_int I.dC PN e (λz=>nomatch z) h
 |str y=>let{t,q}:=(show ∃t,u=TH y t from g);cases q;exact Pr PySem.W.kitx_str I.dC PN e (λz=>nomatch z) h
 |flt y=>let{t,q}:=(show ∃t,u=Vx y t from g);cases q;exact Pr PySem.W.kitx_float I.dC PN e (λz=>nomatch z) h
 |@lst a k d=>
  cases(show u=Oh a from g)
  let{_,_,n,_,f}:=(show b6 X.prog X.w H s.heap a (.lst k) from I.aI a _ d)
  exact Pr Vr I.dC {_,f,rfl} e (λz=>nomatch z) h
 |@frz a ob k d=>
  cases(show u=Oh a from g)
  let{_,_,_,n,_,f}:=(show b6 X.prog X.w H s.heap a (.frz ob (.lst k)) from I.aI a _ d)
  exact Pr Vr I.dC {_,f,rfl} e (λz=>nomatch z) h
 |@tup a k d=>
  cases(show u=Oh a from g)
  let{_,_,_,p}:=(show b6 X.prog X.w H s.heap a (.tup k) from I.aI a _ d)
  let{o,f,l,_}:=p
  exact Pr PySem.W.kitx_tuple I.dC ⟨o,f,l⟩ e (λz=>nomatch z) h
 |@dK a j d=>
  cases(show u=Oh a from g)
  let{_,_,B,_,p}:=(show b6 X.prog X.w H s.heap a (.dK j) from I.aI a _ d)
  let{o,m,r,f,l,_}:=p
  exact Pr Vs I.dC ⟨o,f,l.1⟩ e (λz=>nomatch z) h
 |@dT a j d=>
  cases(show u=Oh a from g)
  let{_,_,k,_,o,m,r,f,l,_}:=(show b6 X.prog X.w H s.heap a (.dT j) from I.aI a _ d)
  exact Pr Vs I.dC ⟨o,f,l.1⟩ e (λz=>nomatch z) h
 |@ins a C D fs d cl ha hn xP v=>
  cases(show u=Oh a from g)
  let{G,O,_}:=lT I.aI d
  let{L,J,_}:=O.look
  exact Pr (PySem.W.kitx_own (cl.get _) cl.hd ha hn xP v) I.dC J e (λz=>nomatch z) h
end
section
variable{X:Cx}
theorem cw:cP X (.builtin "isinstance") (λxs H Q=>∃x T t b,xs=[x,.ty T]/\dE X.K H x t/\Uj X.K t (.type T)=ρ b/\Q (.bl b) H):=by
 intro a s σ H xs g Q I r h
 let{x,T,t,b,rfl,ty,e,q}:=h
 let{u,i,rfl,c,d}:=vals2 r
 cases d;exact k9 I c ty e λf=>{.bl b,H,I.tok f,rfl,q}
end
section
variable{prog:Om}{w:World}{A:Around}{R:S1->Shared->Prop}{I:Addr}{fp wr:List Addr}{G:Array Rr->Array Rr->Prop}{n:Nat}{P:Nat->Value->Prop}{St:Nat->Shared->Prop}
theorem sf(l:WalksS prog w A.in1 I fp wr G n P St)(S:Addr)(p:S∉fp)
 (val:Nat->Str) (r:∀i v,P i v->∃t,v=.str (val i) t) (j:n+1<R7) :
 ∀(k i:Nat) (s:Shared),n-i=k->i<=n->St i s ->
  s.heap.SetOf (Px prog w) S (λg=>(bf val i).any (· == g)) (bf val i).9 ->
  (∀s',Moved (S::wr) G s s'->s'.heap.SetOf (Px prog w) S (λg=>(bf val n).any (· == g)) (bf val n).9->R (.ok (.ret .none)) s') ->
  codeAny (model prog w) A (.builtin "set.update.loop" {[.ref S,.ref I],[]}) R s:=by
 have f:S∉wr:=λh=>p (l.sub _ h);have a:∀b∈wr,b∈S::wr:=λb j=>Of _ j;intro k
 induction k with
 |zero=>
  intro i s hk hi c B C;have D:i=n:=();subst D;refine TX RA ?_;rw[Uw QA _];show wpAny _ A.in1 (pyNext (.ref I) >>= _) _ _ s;refine O6 (l.done s _ _ c λs' m=>?_);show wpAny _ A.in1 (ret Pm) _ _ s'
  exact Oo (C s' (m.mono a) (by
   let{o,E,H,t,J,rest}:=B
   exact{o,E,H,t,m.heap S _ f J,rest}))
 |succ k Q=>
  intro i s hk hi c B C;have q:i<n:=();refine TX RA ?_;rw[Uw QA _];show wpAny _ A.in1 (pyNext (.ref I) >>= _) _ _ s;refine O6 (l.item i s _ _ q c λv s' T u m=>?_)
  let{t,rfl}:=r i v T
  have L:s'.heap.SetOf (Px prog w) S (λg=>(bf val i).any (· == g)) (bf val i).9:=by
   let{o,E,H,U,J,rest}:=B
   exact{o,E,H,U,m.heap S _ f J,rest}
  show wpAny _ A.in1 (holding [TH (val i) t] (setAdd S (.str (val i) t)) >>= _) _ _ s';refine O6 (Qq ?_);unfold setAdd;refine Qq ?_;refine O6 ((Px prog w).pyHash (k:=val i) (C4 _ _ _ _) ?_);have d:(bf val i).9+1<R7:=by have:=k4 val i;lia
  refine wpAny_setAddHashed_of (knd:=Px prog w) (s:={s' with toks:=s'.toks+1}) (C4 _ _ _ _) rfl L d λV x M=>?_
  have N:V.SetOf (Px prog w) S (λg=>(bf val (i+1)).any (· == g)) (bf val (i+1)).9:=
   SetOf_congr M (λg=>by rw[cn,oV]) (by rw[cn,j5])
  refine Oo {plainId_quiet QA _,Q (i+1) _ () q (l.frame _ s' _ _ u (PX _) λb j o e=>?_) N λO y z=>?_}
  .rw[x.2 b (λh:b=S=>p (by rw[<-h];exact j))];exact e
  .refine C O (Moved.trans l.gtrans ((m.mono a).then_heap (PX _) λb o j e=>?_) y) z;rw[x.2 b (λh:b=S=>j (by rw[h];exact Ot))];exact e
end
section
variable{prog:Om}{w:World}{A:Around}{E:Value->Shared->Prop}{s:Shared}
set_option maxRecDepth 100000 in
set_option maxHeartbeats 3200000 in
theorem qt{Q:Value->Shared->Prop}
 (hh:A.handled=τ) (p:x.cps.size+1<R7)
 (h:∀(h':Heap) (tk:Nat),h'.SetOf (Px prog w) s.heap.objs.size (λC=>(bf (bD x) x.cps.size).any (· == C)) (bf (bD x) x.cps.size).9 ->
   (∀b o,b<s.8->s.heap.get? b=ρ o->h'.get? b=ρ o)->Q (.ref s.8) {s with heap:=h',toks:=tk}) :
 wpAny (model prog w) A (call (.type "set") [.str x I]) Q E s:=by
 let{c,tl,T}:=PU.mro
 have y:=PU.made;have U:=PU.sub;refine Qw (codeAny_of_tree ?_);show wpAny _ _ (callAny (.type "set") _) _ _ _;refine Oo {SK _ ∅,TX PySem.F.entry_type_call ?_};rw[Around.under_plain (weight_type_call_type "set" [.str x I] []) rfl];have h1:=PU.notType;have h2:=PU.canCreate;have Z:=PySem.F.typeCall_set_1 (.str x I)
 repeat (any_goals (first |assumption |wp_step))
 refine Qy (code_set_new_1 (.str x I) (E:=E) (Q₁:=λobj f=>∃a:Bool,obj=.ref s.8/\f={s with heap:=s.heap.push {cls:=.type "set",dict:=τ,data:=.set #[] 0 (.fresh 0 0 a)}}) λa=>⟨a,rfl,rfl⟩) λr f z=>?_
 cases r with
 |error e=>exact z
 |ok fl=>
  cases fl with
  |ret obj=>
   let{a,rfl,rfl}:=z
   have V:(s.heap.push {cls:=.type "set",dict:=τ,data:=.set #[] 0 (.fresh 0 0 a)}).get? s.8=ρ {cls:=.type "set",dict:=τ,data:=.set #[] 0 (.fresh 0 0 a)}:=Oq _ rfl;have hT:Shared.TypeIs {s with heap:=s.heap.push {cls:=.type "set",dict:=τ,data:=.set #[] 0 (.fresh 0 0 a)}} (.ref s.8) "set":={_,V,rfl};have Nb:=PU.init.lookup;have Nc:=PU.init.bind (.ref s.8)
   repeat (any_goals (first |assumption |wp_step))
   refine Qy (QG (R:=wants (λr g=>r=.none/\∃h' tk,g={s with heap:=h',toks:=tk} /\
    h'.SetOf (Px prog w) s.heap.objs.size (λC=>(bf (bD x) x.cps.size).any (· == C)) (bf (bD x) x.cps.size).9 /\
    (∀b o,b<s.8->s.heap.get? b=ρ o->h'.get? b=ρ o)) E) PU.init.plain PySem.F.entry_set_init (check_set_init_1 hT ?_)) λl g d=>?_
   .have X:=sub_str_set;have Y:=sub_str_frozenset;have Nf:(Us "str" == Us "dict")=false:=⋯;unfold RQ.«set.__init__» noKeywords VY;generalize B:pyIter=PI
    wp_walk
    subst B;refine wpAny_pyIter_str λo St hW D=>?_;refine O6 (wpAny_runValue ?_);have G:A.in1.in1.in1.handled=τ:=by simp[hh]
    have H:s.heap.objs.size∉[(s.heap.push {cls:=.type "set",dict:=τ,data:=.set #[] 0 (.fresh 0 0 a)}).7]:=by
     rw[Q0];simp only[Oi,Oz,QP,or_false,not_or];exact Oe (Qt _)
    have m:∀(i:Nat) (v:Value),SignAt x i v->∃t,v=.str (bD x i) t:=λi v hv=>by
     let{c,u,hc,e}:=hv
     refine{u,?_};rw[e];unfold bD;rw[Qx,hc];rfl
    refine sf ((hW _ G).toS) s.heap.objs.size H (bD x) m p (x.cps.size-0) 0 _ () (OZ _) D ?J ?hR
    case J=>
     have n:((s.heap.push {cls:=.type "set",dict:=τ,data:=.set #[] 0 (.fresh 0 0 a)}).push o).get? s.8
      =ρ {cls:=.type "set",dict:=τ,data:=.set #[] 0 (.fresh 0 0 a)}:=O9 _ V
     exact SetOf_congr ((setObjOf_fresh (knd:=Px prog w) a).setOf n (by unfold R7;lia)) (λ_=>rfl) rfl
    case hR=>
     intro s' q j
     let{h',g',d',L,M}:=s'
     have eg:g'=s.gens:=q.gens;have ed:d'=s.drawn:=q.drawn;have eo:M=s.os:=q.os;subst eg;subst ed;subst eo;show wpAny _ _ _ _ _ _;refine Oo ?_;show wpAny _ _ (ret Pm) _ _ _;refine Oo {rfl,h',L,rfl,j,λb o' p e=>?_};have N:b≠s.8:=Oe p
     have O:b≠(s.heap.push {cls:=.type "set",dict:=τ,data:=.set #[] 0 (.fresh 0 0 a)}).7:=by
      rw[Q0];exact Oe (T6 p)
     exact q.heap b o' (by simp only[Oi,Oz,QP,or_false,not_or];exact⟨N,O⟩) (O9 _ (O9 _ e))
   .cases l with
    |error e=>exact d
    |ok k=>
     cases k with
     |ret r=>
      let{rfl,h',tk,rfl,j,S}:=d
      repeat (any_goals (first |assumption |wp_step))
      exact h _ _ j S
     |_=>exact d.elim
  |_=>exact z.elim
end
section
variable{X:Cx}
theorem sq(hc:X.calm=true):cP X (.type "set") (λxs H Q=>∃z,xs=[.str z]/\z.cps.size+1<R7/\∀p,H p=τ->Q (.ref p) (upd H p (Aq X.prog X.w p (bf (bD z) z.cps.size).9))):=by
 intro c s σ H xs n Q I r h
 let{z,rfl,f,q}:=h
 let{u,rfl,t,rfl}:=vals1 r
 refine qt (I.ok.hd hc) f λg i d kp=>?_;have a:∀b o,s.heap.get? b=ρ o->g.get? b=ρ o:=λb o e=>kp b o (Oa e) e;refine{.ref s.8,_,I.laid (t':=i) (o:=Aq X.prog X.w s.heap.objs.size (bf (bD z) z.cps.size).9) a (Ob _) {{_,d},?_,?_},rfl,q _ (I.aI.fresh (Ob _))}
 .let{o,_,_,_,e,_}:=d
  exact⟨o,e⟩
 .rintro v x ⟨S,o,j,l,m,e,rest⟩ k;exact{S,o,j,l,m,k o e,rest}
end
section
variable{X:Cx}{pins:List (Addr×Obj)}{σ:St}{H:Hp}{s:Shared}{a:Addr}{y:V}{u:Value}{o:Option V}{A:Around}{E:Value->Shared->Prop}
theorem AQ{Q:Value->Shared->Prop}(p:A.units+1<Rq)(I:Inv X pins σ H s)(g:eJ H a y o)(j:RelV y u)(h:∀s',Inv X pins σ H s'->Q (.bool (!o.isSome)) s') :
 wpAny (model X.prog X.w) A (Pj .NotIn u (.ref a)) Q E s:=by
 rcases g with⟨c,k,e,d,l⟩ |⟨c,k,b,e,d,i,l⟩
 .subst d
  let{z,hd,m,rel,f}:=p0 I.aI e
  refine wpAny_notIn_of (rD j) hd f.mapOf ?_;rw[<-(rel.val k).jY,<-l];exact h _ (I.tok _)
 .subst d;cases(show u=Oh b from j)
  let{z,hd,n,rel,f}:=vo I.aI e
  refine wpAny_notIn_heap (SJ p) (q9 I.aI i) hd f ?_;have q:=(rel.val k).jY;rw[Vn]at q;rw[<-q,<-l];exact h _ (I.tok _)
end
section
variable{X:Cx}{o i:Expr}{td ty:TE}
theorem wG(j:X.A.units+1<Rq)(hi:PE X i ty)(l:PE X o td):PC X .NotIn i o (As ty td):=by
 refine{?_};intro b s σ H Q I h;refine bb (hi b s σ H _ I h) λv c ⟨y,d,e,f,k⟩=>bb (l b c σ d _ e k) λu w ⟨x,m,n,p,a,q,ex,g,r⟩=>?_;subst ex;obtain rfl:u=Oh a:=p;exact AQ j n g f λz t=>{.bl (!q.isSome),m,t,rfl,r}
end
section
variable{X:Cx}{pins:List (Addr×Obj)}{σ:St}{H:Hp}{s:Shared}{a C dx:Addr}{fs:List (Str×V)}{f:Str}{A:Around}{E:Value->Shared->Prop}
theorem uh{Q:Unit->Shared->Prop}(I:Inv X pins σ H s)(e:H a=ρ (.ins C dx fs))(c:pR X.K C)(n:aP X.K C f)(hl:fs.9<1000)(l:RelV y u)
 (h:∀s',Inv X pins σ (upd H a (.ins C dx (cB f y fs))) s'->Q .unit s'):wpAny (model X.prog X.w) A (setAttr (.ref a) f u) Q E s:=by
 let{i,O,r,j,_,k}:=lT I.aI e
 have m:(fs.map (·.1)).9<=sizeLine:=by rw[O5,QI];lia
 refine AH I.dC O c.sa c.po n.Em c.hd j m λp d t=>h _ ?_;have hd:∃o,p.get? dx=ρ o:=let ⟨o,_,_,v,_⟩:=d.ns;⟨o,v⟩
 refine I.write (x:=a) (e:=dx) (by rw[e];exact PN) (.inr k) (λb q B z=>(t.2 b B).trans z) hd ?_;refine{by rw[a8 O.ne];exact k,?_,O.ne,d.obj,_,d.ns,λg=>?_,λg D=>?_}
 .have:=kD f y fs;lia
 .show gd ((cB f y fs).lookup g) (if g=f then ρ u else i g);rw[aW]
  by_cases q:g=f
  .rw[if_pos q,if_pos q];exact l
  .rw[if_neg q,if_neg q];exact r g
 .by_cases q:g=f
  .rw[q];exact(jX f y fs).1
  .refine(jX f y fs).2 g (j g λz=>D ?_);show (if g=f then ρ u else i g)=τ;rw[if_neg q];exact z
end
section
variable{X:Cx}{o value:Expr}{f:Str}{pos pos':Pos}{ta tv:TE}
theorem gA(ha:PE X o ta)(g:PE X value tv)(j:QK value (ρ (.Attribute o f pos')) pos.line X.5=pure false):PS X (.Assign [.Attribute o f pos'] value pos) (Hy X.K ta tv f):=by
 refine{?_};intro b s σ H D I h;refine RX (bb (g b s σ H _ I h) λu d ⟨y,e,i,k,q⟩=>bb (ha b d σ e _ i q) λm A p=>?_) j
 let{x,B,r,t,a,C,E,fs,ex,v,c,n,l,w}:=p
 subst ex;obtain rfl:m=Oh a:=t;exact uh r v c n l k λG z=>{σ,_,z,w}
end
section
variable{P:Om}{w:World}{K:O4}{mg:Str->Option Value}{base:Heap}{N:List Str}{qual:Str}{scope:Qr}{f:Addr}{cd:Value}{A:Around}{outer:List Env}{s:Shared}{H:Hp}{E:XK}
theorem bq:vj (mw (oY P w) P w K mg base N qual scope f cd A outer s H E) E:=by
 intro t σ k v e C x I F y;show wpAny (model P w) _ («leaving» _ (.ref e)) (λ_ d=>oY P w outer H s E (.ref e) d) (λB d=>oY P w outer H s E B d) v;unfold «leaving»;have g:∀b,v.8<=b->k b=τ:=λb a=>I.aI.fresh a;refine O6 (rH (lo:=s.8) (H:=k) (base:=base) (outer:=outer) I.ok.frames I.stack rfl I.sz g F λG D p=>?_);have l:=I.j6
 have h:∀b o,s.heap.get? b=ρ o->b∉lM outer->b∉(envOfC qual scope s.heap.objs.size f cd::outer).filterMap (·.frame):=λb o a hn i=>by
  rcases Oi.mp (show b∈s.8::lM outer from i) with z |z
  .exact absurd (Oa a) (by rw[z];exact OX _)
  .exact hn z
 refine{e,C,x,k,rfl,I.os,I.bare,?_,I.aI.past p l,D,y};have u:=I.base;refine{λb o a n c hx=>?_,λb o a n c hx=>?_,λb o a n hx=>u.free b o a n hx,λb o a hx=>?_,u.iZ,u.iB,u.j0}
 .exact p.keep b o (u.keep b o a n c hx) (.inl (Oa a)) (h b o a c)
 .let{sl,j}:=u.slot b o a n c hx
  let{m,q}:=p.slot b _ j (show b∈s.8::lM outer from Of _ c)
  exact⟨m,q⟩
 .let{r,j}:=u.there b o a hx
  by_cases i:b∈(envOfC qual scope s.heap.objs.size f cd::outer).filterMap (·.frame)
  .let{sl,q}:=p.slot b r j i
   exact{_,q}
  .exact{r,p.keep b r j (.inl (Oa a)) i}
end
end _L
open _L
namespace _B
open PySem.Spec PyProof.Rows
noncomputable abbrev ch(x:Str):List Nat:=x.cps.toList
theorem au(x:Str):(ch x).9=x.9:=by simp[ch,QF]
theorem bh(h:ch x=ch y):x=y:=by
 obtain⟨a⟩:=x;obtain⟨b⟩:=y;have:a=b:=RP.mp h;rw[this]
theorem ag(a b:Str):ch (a++b)=ch a++ch b:=by
 show (a++b).cps.toList=_;rw[Str.cps_append,Array.toList_append]
theorem qu(c:Nat):ch {#[c]}=[c]:=rfl
theorem eM(h:z.9=0):ch z=[]:=by
 have:=au z;rw[h]at this;exact RG.mp this
theorem ja(x:Str)(l u:Option Int):OQ x l u=StrLaws.sliceText x l u:=rfl
theorem mE(x:Str)(j:Nat):ch (OQ x τ (ρ (j:Int)))=(ch x).take j:=by
 by_cases h:j<=x.9
 .grind [ja,Ux,QF]
 .have hn:Pt τ (ρ (j:Int)) 1 x.9=Pt τ (ρ ((x.9:Nat):Int)) 1 x.9:=by
   grind [Pt]
  have e:OQ x τ (ρ (j:Int))=OQ x τ (ρ ((x.9:Nat):Int)):=by
   grind [OQ]
  rw[e,ja,Ux {(),by simp[QF]}];have a:(ch x).9<=j:=by rw[au];lia
  rw[Rc a];have b:x.cps.toList.take x.cps.size=x.cps.toList:=Rc (by simp);simp[QF,b]
theorem iN(x:Str)(i:Nat):ch (OQ x (ρ (i:Int)) τ)=(ch x).drop i:=by
 by_cases h:i<=x.9
 .rw[ja,U7 {(),by simp[QF]at h ⊢;lia}];show ((x.cps.toList.drop (i:Int).toNat).take ((x.cps.toList.9:Int)-(i:Int)).toNat).toArray.toList=(ch x).drop i;rw[List.toList_toArray,Pb,Rc];rw[VF]
  lia
 .have hn:Pt (ρ (i:Int)) τ 1 x.9=Pt (ρ ((x.9:Nat):Int)) τ 1 x.9:=by
   have a:¬((i:Int)<0):=();have b:¬(((x.9:Nat):Int)<0):=();have c:max (0:Int) (min (i:Int) (x.9:Int))=max 0 (min ((x.9:Nat):Int) (x.9:Int)):=();simp[Pt,a,b,c]
  have e:OQ x (ρ (i:Int)) τ=OQ x (ρ ((x.9:Nat):Int)) τ:=by
   unfold OQ;rw[hn]
  rw[e,ja,U7 {(),by simp[QF]}];have d:(ch x).9<=i:=by rw[au];lia
  rw[U8 d];simp[QF]
noncomputable def ig(c:Nat)(l:List Nat):List Nat:=l.filter λk=>decide (k≠c)
theorem iO(c:Nat)(l:List Nat)(h:c∉l):ig c l=l:=by
 unfold ig;refine UL.mpr λa ha=>decide_eq_true λe=>h (e ▸ ha)
theorem mF(c:Nat)(g:z.9=0):∀parts:List Str,(∀p∈parts,c∉ch p)->ig c (ch (P6 {#[c]} parts))=ch (P6 z parts)
 |[],_=>rfl
 |[p],h=>iO c _ (h p (Oz.mpr rfl))
 |p::q::r,h=>by
  have d:=mF c g (q::r) λa ha=>h a (Of _ ha);show ig c (ch (p++{#[c]}++P6 {#[c]} (q::r)))=ch (p++z++P6 z (q::r));rw[ag,ag,ag,ag,<-d,eM g,Pq];unfold ig;rw[Ru,Ru];have b:=iO c _ (h p (Ot ..));unfold ig at b;rw[b];simp
theorem qv(g:z.9=0)(x:Str)(c:Nat):ch (SG x {#[c]} z)=ig c (ch x):=by
 rw[StrLaws.replace_one,<-mF c g _ (Va x c),Vb]
theorem wH(j:z.9=0):∀g:List Str,ch (Tp z g)=(g.map ch).flatten:=by
 intro g;unfold Tp Builtin.Str.glued
 have b:z.cps=#[]:=by
  have:=eM j;exact RP.mp this
 have key:∀(l:List Str) (a:Array Nat),(l.foldl (λa p=>a++z.cps++p.cps) a).toList=a.toList++(l.map ch).flatten:=by
  intro l
  induction l with
  |nil=>intro a;simp
  |cons p l c=>
   intro a;rw[S8,c,b];simp
 cases g with
 |nil=>rfl
 |cons p l=>
  show ((List.drop 1 (p::l)).foldl (λa q=>a++z.cps++q.cps) p.cps).toList=_;rw[List.drop_one,List.tail_cons,key];rfl
noncomputable def cK:Str:="abcdefghijklmnopqrstuvwxyz0123456789"
structure bZ(x:Str):Prop where
 lo:2<=x.9
 hi:x.9<=4
 nd:(ch x).Nodup
 sub:∀c∈ch x,c∈ch cK
structure fA(i:Nat)(q0 found:Str):Prop where
 pl:q0.9+i=36
 fl:found.9=i
 pn:(ch q0).Nodup
 fn:(ch found).Nodup
 ps:∀c∈ch q0,c∈ch cK
 fs:∀c∈ch found,c∈ch cK
 ap:∀c∈ch found,c∉ch q0
theorem ui:(ch cK).Nodup:=∅
theorem yO:cK.9=36:=∅
theorem fA.zero(he:e.9=0):fA 0 cK e:=
 {yO,he,ui,(by rw[eM he];exact Uk),(λ_ h=>h),(λc h=>by rw[eM he]at h;exact absurd h (by simp)),(λc h=>by rw[eM he]at h;exact absurd h (by simp))}
theorem ka:∀{l:List Nat},l.Nodup->c∈l->(ig c l).9+1=l.9:=by
 intro l
 induction l with
 |nil=>intro _ h;cases h
 |cons a r b=>
  intro nd h
  let{d,f}:=Qg.mp nd
  unfold ig at b ⊢
  by_cases e:a=c
  .subst e;have:r.filter (λk=>decide (k≠a))=r:=iO a r d;rw[VG,if_neg (by simp),this];rfl
  .have hc:c∈r:=(Oi.mp h).resolve_left (λz=>e z.symm);rw[VG,if_pos (by simp[e]),Ov,Ov,b f hc]
theorem fA.step(d:fA i g found)(j:z.9=0)(hc:c∈ch g):fA (i+1) (SG g {#[c]} z) (found++{#[c]}):=by
 have e:=qv j g c;have o:=ka d.pn hc;have p:(SG g {#[c]} z).9=(ig c (ch g)).9:=by rw[<-au,e]
 have q:=au g;refine{by have:=d.pl;lia,?_,?_,?_,λk hk=>?_,λk hk=>?_,λk hk=>?_}
 .rw[<-au,ag,Oy,au,d.fl];rfl
 .rw[e];exact d.pn.filter _
 .rw[ag];refine T7.mpr {d.fn,by simp[ch],λa ha b f=>?_};have:b=c:=by simpa [ch] using f
  subst this;rintro rfl;exact d.ap a ha hc
 .rw[e]at hk;exact d.ps k (QC.mp hk).1
 .rw[ag]at hk;rcases P2.mp hk with h |h
  .exact d.fs k h
  .have:k=c:=by simpa [ch] using h
   subst this;exact d.ps k hc
 .rw[e];intro l
  let{m,n}:=QC.mp l
  rw[ag]at hk;rcases P2.mp hk with h |h
  .exact d.ap k h m
  .have:k=c:=by simpa [ch] using h
   subst this;simp at n
theorem fA.signs(d:fA i g found)(j:2<=i)(l:i<=4):bZ found:={by rw[d.fl];exact j,by rw[d.fl];exact l,d.fn,d.fs}
structure bJ(sg w:Str):Prop where
 lo:1<=w.9
 hi:w.9<=5
 sub:∀c∈ch w,c∈ch sg
theorem yP(ha:bJ sg a)(g:bJ sg b):bJ sg (OQ (OQ a (ρ 1) τ++b) τ (ρ 5)):=by
 have e:ch (OQ (OQ a (ρ 1) τ++b) τ (ρ 5))=((ch a).drop 1++ch b).take 5:=by
  have i:=mE (OQ a (ρ 1) τ++b) 5;have j:=iN a 1;have d:ch (OQ (OQ a (ρ 1) τ++b) τ (ρ 5))=(ch (OQ a (ρ 1) τ++b)).take 5:=i;have f:ch (OQ a (ρ 1) τ)=(ch a).drop 1:=j;rw[d,ag,f]
 have l:(OQ (OQ a (ρ 1) τ++b) τ (ρ 5)).9=(((ch a).drop 1++ch b).take 5).9:=by rw[<-au,e]
 have k:=au b;have:=g.lo;refine{?_,?_,λc hc=>?_}
 .rw[l,OT,Oy];lia
 .rw[l,OT];lia
 .rw[e]at hc;rcases P2.mp (Rm hc) with h |h
  .exact ha.sub c (List.mem_of_mem_drop h)
  .exact g.sub c h
theorem wI(j:z.9=0)(o:1<=g.9)(p:g.9<=5)(h:∀t∈g,∃c,t={#[c]}/\c∈ch sg):bJ sg (Tp z g):=by
 have e:=wH j g
 have hl:∀(l:List Str),(∀t∈l,∃c,t={#[c]}/\c∈ch sg)->((l.map ch).flatten).9=l.9/\∀c∈(l.map ch).flatten,c∈ch sg:=by
  intro l
  induction l with
  |nil=>intro _;exact{rfl,λc h=>by cases h}
  |cons t l b=>
   intro a
   let{c,rfl,hc}:=a t (Ot ..)
   let{d,f}:=b λt h=>a t (Of _ h)
   refine{by rw[Og,T8,Oy,d,Ov];exact Vc 1 _,λk hk=>?_};rw[Og,T8]at hk;rcases P2.mp hk with h |h
   .have:k=c:=by simpa [ch] using h
    subst this;exact hc
   .exact f k h
 let{i,m}:=hl g h
 have n:(Tp z g).9=g.9:=by rw[<-au,e,i]
 exact{(),(),λc hc=>m c (e ▸ hc)}
noncomputable def AR(y x:Str):Bool:=!(Q2 x y 0 x.length 1).isEmpty
theorem vy(x:Str)(c:Nat):AR {#[c]} x=decide (c∈ch x):=StrLaws.found_one x c
noncomputable def bears(ws:List Str)(r:Str):Bool:=ws.any λw=>AR w r
noncomputable def aS(w:Str)(n:Nat):Str:=OQ w τ (ρ (n:Int))
theorem wJ(w:Str)(n:Nat):(aS w n).9<=w.9:=Ri _ _ _
noncomputable def qw(ks:List Str)(b:Str):List Str:=if b∈ks then ks else ks++[b]
noncomputable def kb(ws:List Str)(ks:List Str)(b:Str):List Str:=if bears ws b=true then ks else qw ks b
theorem yQ(ws g:List Str)(b:Str):(kb ws g b).9<=g.9+1:=by
 unfold kb qw;split
 .lia
 .split
  .lia
  .simp
noncomputable def upTo(ws:List Str)(w:Str)(ks:List Str)(n:Nat):List Str:=((PL n).map λi=>aS w (1+i)).foldl (kb ws) ks
theorem cW(ws:List Str)(w:Str)(g:List Str)(n:Nat):upTo ws w g (n+1)=kb ws (upTo ws w g n) (aS w (1+n)):=by
 delta upTo;rw[TR,OV,T2];rfl
theorem mG(ws:List Str)(w:Str)(g:List Str):∀n,(upTo ws w g n).9<=g.9+n
 |0=>Ob _
 |n+1=>by
  rw[cW];have:=mG ws w g n;have:=yQ ws (upTo ws w g n) (aS w (1+n))
  lia
noncomputable def addW(ws:List Str)(ks:List Str)(w:Str):List Str:=upTo ws w ks (w.9-1)
noncomputable def bQ(ws:List Str)(e:Str)(us:List Str):List Str:=us.foldl (addW ws) [e]
theorem uj(ws:List Str)(e:Str)(us:List Str)(w:Str):bQ ws e (us++[w])=addW ws (bQ ws e us) w:=by
 delta bQ;rw[T2];rfl
theorem hV(h:∀w∈us,w.9<=5):(bQ ws e us).9<=1+4*us.9:=by
 have key:∀(us a:List Str),(∀w∈us,w.9<=5)->(us.foldl (addW ws) a).9<=a.9+4*us.9:=by
  intro us
  induction us with
  |nil=>intro a _;exact Ob _
  |cons w us b=>
   intro a h;have c:=b (addW ws a w) λv d=>h v (Of _ d);have f:=h w (Ot ..);have g:=mG ws w a (w.9-1);rw[S8,Ov];unfold addW at c;unfold addW;omega
 exact key us [e] h
theorem uk(h:g.Nodup):(qw g b).Nodup:=by
 unfold qw;split
 .exact h
 .rename_i d;refine T7.mpr {h,by simp,λa ha c hc=>?_};have:c=b:=by simpa using hc
  subst this;rintro rfl;exact d ha
theorem um(h:g.Nodup):(kb ws g b).Nodup:=by
 unfold kb;split
 .exact h
 .exact uk h
theorem mH(h:g.Nodup):∀n,(upTo ws w g n).Nodup
 |0=>h
 |n+1=>by rw[cW];exact um (mH h n)
theorem kH(us:List Str):(bQ ws e us).Nodup:=by
 have key:∀(us a:List Str),a.Nodup->(us.foldl (addW ws) a).Nodup:=by
  intro us
  induction us with
  |nil=>intro a h;exact h
  |cons w us b=>intro a h;exact b _ (mH h _)
 exact key us [e] (by simp)
theorem yR(h:k∈g):k∈kb ws g b:=by
 unfold kb qw;split
 .exact h
 .split
  .exact h
  .exact S2 _ h
theorem mem_upTo(h:k∈g):∀n,k∈upTo ws w g n
 |0=>h
 |n+1=>by rw[cW];exact yR (mem_upTo h n)
theorem bt(us:List Str):e∈bQ ws e us:=by
 have key:∀(us a:List Str),e∈a->e∈us.foldl (addW ws) a:=by
  intro us
  induction us with
  |nil=>intro a h;exact h
  |cons w us b=>intro a h;exact b _ (mem_upTo h _)
 exact key us [e] (by simp)
end _B
open _B
namespace _B
noncomputable def c4(r:Str)(n:Nat):Str:=OQ r (ρ (n:Int)) τ
theorem hX(r:Str):c4 r r.9="":=by
 refine bh ?_;show ch (OQ r (ρ (r.9:Int)) τ)=[];rw[iN];exact U8 (S3 (au r))
noncomputable def yS(ps:List Str)(r:Str):Nat:=((PL (r.9+1)).find? λn=>decide (c4 r n∈ps)).getD 0
noncomputable def lend(ps:List Str)(r:Str):Str:=c4 r (yS ps r)
theorem sr(g:c4 r n∈ps)(j:∀m,m<n->c4 r m∉ps)(l:n<=r.9):yS ps r=n:=by
 delta yS
 have e:(PL (r.9+1)).find? (λn=>decide (c4 r n∈ps))=ρ n:=by
  grind [List.find?_range_eq_some]
 rw[e];rfl
theorem kc(x y:Str)(i:Nat):Vt x y i=true↔((ch x).drop i).take y.9=ch y:=by
 unfold Vt;rw[beq_iff_eq];constructor
 .intro h;have:=congrArg Array.toList h;rw[Uy,Tg,QU]at this;exact this
 .intro h;refine RP.mp ?_;rw[Uy,Tg,QU];exact h
theorem vz(y x:Str):AR y x=true↔ch y <:+: ch x:=by
 unfold AR;rw[StrLaws.found_iff];constructor
 .grind [kc,Tr,List.drop_suffix]
 .rintro⟨a,b,e⟩;refine{a.9,?_,(kc x y _).mpr ?_}
  .rw[<-au x,<-e,Oy,Oy,au];lia
  .rw[<-e,PF,List.drop_left,<-au y,List.take_left]
noncomputable def wl(ws:List Str):List (List Nat):=ws.map ch
theorem d8(w:Str)(n:Nat):ch (aS w n)=(ch w).take n:=mE w n
theorem hZ(w:Str)(n:Nat):ch (c4 w n)=(ch w).drop n:=iN w n
theorem qx:k∈kb ws g b↔k∈g\/(k=b/\bears ws b=false):=by
 unfold kb qw
 by_cases a:bears ws b=true
 .rw[if_pos a];simp[a]
 .rw[if_neg a];have c:bears ws b=false:=by simpa using a
  by_cases d:b∈g
  .rw[if_pos d];constructor
   .exact .inl
   .rintro(h |⟨rfl,_⟩)
    .exact h
    .exact d
  .rw[if_neg d];simp[c]
theorem jb:∀n,k∈upTo ws w g n↔k∈g\/∃i,i<n/\k=aS w (1+i)/\bears ws k=false
 |0=>by
  show k∈g↔_;simp
 |n+1=>by
  rw[cW,qx,jb n];constructor
  .grind
  .grind
theorem ik(us:List Str):k∈bQ ws e us↔k=e\/∃w∈us,∃i,i<w.9-1/\k=aS w (1+i)/\bears ws k=false:=by
 have key:∀(us b:List Str),k∈us.foldl (addW ws) b↔k∈b\/∃w∈us,∃i,i<w.9-1/\k=aS w (1+i)/\bears ws k=false:=by
  intro us
  induction us with
  |nil=>intro b;simp
  |cons w us d=>
   intro b;rw[S8,d];unfold addW;rw[jb];constructor
   .rintro((h |⟨i,h⟩) |⟨c,a,h⟩)
    .exact .inl h
    .exact .inr {w,Ot ..,i,h}
    .exact .inr {c,Of _ a,h}
   .rintro(h |⟨c,a,h⟩)
    .exact .inl (.inl h)
    .rcases Oi.mp a with rfl |a
     .exact .inl (.inr h)
     .exact .inr ⟨c,a,h⟩
 delta bQ;rw[key];simp
noncomputable def Gm(ss:List Str)(l:List Nat):Bool:=decide (l∈ss.map ch)
theorem i3:Gm ss (ch k)=true↔k∈ss:=by
 delta Gm;rw[decide_eq_true_iff];constructor
 .intro h
  let{c,a,b}:=Ol.mp h
  rw[<-bh b];exact a
 .intro h;exact Ol.mpr ⟨k,h,rfl⟩
theorem take_snoc(h:(ch r)[i]?=ρ c):aS r (i+1)=aS r i++{#[c]}:=by
 refine bh ?_;rw[ag,d8,d8,Qk,h];rfl
theorem take_zero(r:Str):aS r 0="":=bh (by rw[d8];rfl)
theorem take_all(r:Str):aS r r.9=r:=bh (by rw[d8,<-au,Pu])
theorem mI(r:Str)(n:Nat):ch (aS r n) <:+: ch r:=by rw[d8];exact(Tr _ _).isInfix
theorem len_app(a b:Str):(a++b).9=a.9+b.9:=by rw[<-au,ag,Oy,au,au]
theorem lV(i:Int)(h:i.natAbs<=1000):i.natAbs.log2<1920/\(OM (toString i)).9<=1921:=by
 have h1:i.natAbs.log2<1920:=by have:=Nat.log2_le_self i.natAbs;omega
 exact{h1,S9 h1}
def wK(g r:Str):Prop:=∀c∈ch r,c∈ch g
structure Bad(ws:List Str)(r:Str)(n:Nat):Prop where
 lt:n<r.9
 good:bears ws (aS r n)=false
 bad:bears ws (aS r (n+1))=true
theorem su{α β:Type}(f:α->List β)(b:Nat):∀(g:List α),(∀c∈g,(f c).9<=b)->(g.flatMap f).9<=g.9*b
 |[],_=>OZ _
 |c::g,h=>by
  rw[Qn,Oy,Ov,Nat.succ_mul];have:=su f b g λd hd=>h d (Of _ hd);have:=h c (Ot ..)
  lia
theorem il(f:Nat->Option Str)(h:Str->Int):∀g:List Nat,((g.filterMap f).map h).sum=(g.map λc=>(match f c with |none=>0 |some x=>h x)).sum
 |[]=>rfl
 |c::g=>by
  rw[Sq,Og,Pa,<-il f h g]
  cases f c with
  |none=>simp
  |some x=>simp
noncomputable def vA(q:Str×Str):List V:=[.str q.1,.str q.2]
structure yT(H:Hp)(l:Addr)(rs:List Addr)(qs:List (Str×Str)):Prop where
 l:H l=ρ (.lst (rs.map V.ref))
 t:yf H rs (qs.map vA)
theorem uo{α:Type}{a b:α->Int}:∀{l:List α},(∀x∈l,a x<=b x)->(l.map a).sum<=(l.map b).sum
 |[],_=>Int.le_refl _
 |x::l,h=>by
  rw[Og,Og,Pa,Pa];exact Int.add_le_add (h x (Ot ..)) (uo λy c=>h y (Of _ c))
theorem Dh{α:Type}{a:α->Int}{l:List α}(h:∀x∈l,0<=a x):0<=(l.map a).sum:=by
 have:=uo (a:=λ_=>(0:Int)) (b:=a) h
 have e:∀l:List α,(l.map λ_=>(0:Int)).sum=0:=by
  intro l
  induction l with
  |nil=>rfl
  |cons x l c=>rw[Og,Pa,c];rfl
 rw[e]at this;exact this
theorem qy(r:Str):r++("":Str)=r:=bh (by rw[ag,eM (z:="") rfl,Pq])
theorem jc(r:Str):("":Str)++r=r:=bh (by rw[ag,eM (z:="") rfl,List.nil_append])
theorem cx(a b c:Str):a++b++c=a++(b++c):=bh (by rw[ag,ag,ag,ag,PF])
theorem sv:∀{l:List Nat},c∈l->∃i,l[i]?=ρ c/\(∀j,j<i->l[j]?≠ρ c)/\l=l.take i++c::l.drop (i+1)
 |[],h=>nomatch h
 |d::l,h=>by
  by_cases e:d=c
  .exact⟨0,by rw[e];rfl,λj f=>(),by rw[e];rfl⟩
  .have g:c∈l:=by
    rcases Oi.mp h with z |z
    .exact absurd z.symm e
    .exact z
   let{i,a,b,s}:=sv g
   refine{i+1,a,λj f=>?_,?_}
   .cases j with
    |zero=>intro z;exact e (Oc z)
    |succ j=>exact b j ()
   .show d::l=d::(l.take i++c::l.drop (i+1));rw[<-s]
theorem drop_cons(h:(ch r)[i]?=ρ c):({#[c]}:Str)++c4 r (i+1)=c4 r i:=by
 refine bh ?_
 let{hl,e}:=O8.mp h
 rw[ag,qu,hZ,hZ,QH hl,e];rfl
noncomputable def HR:V->Bool
 |.int _=>true
 |_=>false
def sx(z:Str):Prop:=z.9<2\/4<z.length\/(∃c∈ch z,c∉ch cK)\/∃i j,i<j/\j<z.9/\bD z i=bD z j
def fP(g z:Str):Prop:=z.9<1\/5<z.length\/∃c∈ch z,c∉ch g
noncomputable def newX(H H':Hp)(x:Addr):Hp:=λa=>if a=x then H' a else dN H H' a
theorem lW(h:H a=τ)(e:g a=ρ o):newX H g x a=ρ o:=by
 unfold newX;split
 .exact e
 .exact me h e
theorem wL(e:g x=ρ o):newX H g x x=ρ o:=by
 unfold newX;rw[if_pos rfl];exact e
noncomputable def pre(ls:List Int)(k:Nat):Int:=(ls.take k).sum
theorem pq:∀{fs:List (Str×V)},n∉fs.map (·.1)->cB n v fs=fs++[(n,v)]
 |[],_=>rfl
 |(a,u)::fs,h=>by
  have b:¬a=n:=λz=>h (by rw[Og,z];exact Ot ..);show (if a=n then _ else _)=_;rw[if_neg b,pq (fs:=fs) λz=>h (by rw[Og];exact Of _ z)];rfl
theorem sy:∀{fs:List (Str×V)},n∉fs.map (·.1)->(fs++(n,v)::g).lookup n=ρ v
 |[],_=>by
  show SE n ((n,v)::g)=_;rw[OA,show (n==n)=true from beq_iff_eq.mpr rfl]
 |(a,u)::fs,h=>by
  have b:¬n=a:=λz=>h (by rw[Og,z];exact Ot ..);rw[VH,OA,show (n==a)=false from beq_eq_false_iff_ne.mpr b];exact sy (fs:=fs) λz=>h (by rw[Og];exact Of _ z)
theorem mJ:∀{fs:List (Str×V)},n∉fs.map (·.1)->fs.lookup n=τ:=by grind [Ot,Of]
theorem getD_some{α:Type}{l:List α}{i:Nat}(x:α)(h:i<l.9):l[i]?=ρ (l.getD i x):=by
 rw[Q9,P1 h];rfl
def Fi(Jv:List (List (Str×Nat))):Nat->List Str->Prop
 |_,[]=>True
 |d,w::ws=>∃e,(w,e)∈Jv.getD d []/\Fi Jv e ws
noncomputable def cat:List Str->Str
 |[]=>""
 |w::ws=>w++cat ws
def Fj(ss hk:List Str)(wl:List (List (Str×Nat)))(p w:Str)(as:List Str)(i:Nat):Prop:=∃d e,d<wl.9/\hk.getD d ""=lend ss p/\(wl.getD d [])[i]?=ρ (w,e)/\Fi wl e as
structure Wr where
 g:Str
 bw:List Str
 ss:List Str
 ls:List Str
 hk:List Str
 many:Int
 n:Nat
 b:Nat
 c:Nat
 wl:List (List (Str×Nat))
open Classical in
noncomputable def HS(R:Wr)(bs:List Str)(w:Str)(us:List Str):V:=if bears R.bw (cat bs)=true then .non else if h:∃i,Fj R.ss R.hk R.wl (cat bs) w us i then .int ((Classical.choose h:Nat):Int) else .non
noncomputable def Di(R:Wr)(all:List Str)(k:Nat):List Str:=(all.take (k+(R.b+1+R.c))).drop k
noncomputable def Le(R:Wr)(all:List Str)(k:Nat):V:=HS R ((Di R all k).take R.b) ((Di R all k).getD R.b "") ((Di R all k).drop (R.b+1))
theorem yU(z:Str):∀(n:Nat) (a:Array Nat),((P9 n z.cps).foldl (·++·) a).toList=a.toList++(P9 n (ch z)).flatten
 |0,a=>by simp
 |n+1,a=>by
  rw[UN,S8,yU z n,UN,T8];simp[ch]
theorem yV{z:Str}{n:Nat}(j:n<=1000000)(g:z.9*n<=1000000):MulOk z (n:Int):=by
 refine{by rw[decide_eq_false 1.0,decide_eq_false 1.0];rfl,λa _=>?_,λ_ _=>?_}
 .have b:(z.9:Int)*(n:Int)<=1000000:=by rw[<-Int.natCast_mul];omega
  have c:(z.9:Int)<=(2^63-1)/(n:Int):=(Int.le_ediv_iff_mul_le 1.0).mpr 1.0;omega
 .rw[Pb];have:=aa g;exact decide_eq_false 1.0
section
variable{g:Str}{ws:List Str}
noncomputable def wM(g:Str):Nat->List Str
 |0=>[""]
 |n+1=>(ch g).flatMap λc=>(wM g n).map λr=>({#[c]}:Str)++r
noncomputable def rq(g:Str):Nat->List Str
 |0=>[""]
 |n+1=>(rq g n).flatMap λr=>(ch g).map λc=>r++({#[c]}:Str)
theorem jd:∀n,rq g n=wM g n
 |0=>rfl
 |1=>by
  show ([""]:List Str).flatMap (λr=>(ch g).map λc=>r++({#[c]}:Str))=(ch g).flatMap λc=>([""]:List Str).map λr=>({#[c]}:Str)++r;rw[List.flatMap_singleton]
  have:∀a:List Nat,(a.map λc=>("":Str)++({#[c]}:Str))=a.flatMap λc=>([""]:List Str).map λr=>({#[c]}:Str)++r:=by
   intro a
   induction a with
   |nil=>rfl
   |cons c a b=>
    rw[Og,Qn,b];show (("":Str)++({#[c]}:Str))::_=[({#[c]}:Str)++("":Str)]++_;rw[jc,qy];rfl
  exact this _
 |n+2=>by
  show (rq g (n+1)).flatMap (λr=>(ch g).map λc=>r++({#[c]}:Str))=(ch g).flatMap λc=>(wM g (n+1)).map λr=>({#[c]}:Str)++r;rw[jd (n+1)];show ((ch g).flatMap λc=>(wM g n).map λr=>({#[c]}:Str)++r).flatMap (λr=>(ch g).map λc=>r++({#[c]}:Str))=_;rw[List.flatMap_assoc];congr 1;funext c;rw[<-jd (n+1)];show _=((rq g n).flatMap λr=>(ch g).map λc=>r++({#[c]}:Str)).map λr=>({#[c]}:Str)++r;rw[jd n,List.map_flatMap,List.flatMap_map];congr 1;funext r;rw[OS];refine QR λd _=>?_;exact cx _ _ _
theorem qz:∀n,∀r∈wM g n,r.9=n
 |0,r,h=>by rw[Oz.mp h];rfl
 |n+1,r,h=>by
  let{c,_,a}:=Ts.mp h
  let{q,b,rfl}:=Ol.mp a
  rw[len_app,qz n q b];show 1+n=n+1
  lia
theorem vB:∀n,∀r∈wM g n,wK g r
 |0,r,h=>by
  rw[Oz.mp h];intro c hc;rw[eM (z:="") rfl]at hc;exact nomatch hc
 |n+1,r,h=>by
  let{c,hc,a}:=Ts.mp h
  let{q,b,rfl}:=Ol.mp a
  intro d hd;rw[ag,qu]at hd;rcases P2.mp hd with z |z
  .rw[Oz.mp z];exact hc
  .exact vB n q b d z
noncomputable def c6(g:Str)(ws:List Str)(t:Str)(n:Nat):List Str:=(wM g n).filter λr=>!bears ws (t++r)
theorem mK(h:bears ws t=false):c6 g ws t 0=[("":Str)]:=by
 show ([("":Str)]).filter (λr=>!bears ws (t++r))=[("":Str)];rw[Q1 (by rw[qy,h];rfl),List.filter_nil]
theorem mL(t:Str)(n:Nat):c6 g ws t (n+1)=(ch g).flatMap λc=>(c6 g ws (t++{#[c]}) n).map λr=>({#[c]}:Str)++r:=by
 show ((ch g).flatMap λc=>(wM g n).map λr=>({#[c]}:Str)++r).filter (λr=>!bears ws (t++r))=_;rw[List.filter_flatMap];congr 1;funext c;show ((wM g n).map λr=>({#[c]}:Str)++r).filter (λr=>!bears ws (t++r))=((wM g n).filter λr=>!bears ws (t++{#[c]}++r)).map λr=>({#[c]}:Str)++r;rw[VR];congr 1;refine Vu λr _=>?_;show (!bears ws (t++(({#[c]}:Str)++r)))=!bears ws (t++{#[c]}++r);rw[cx]
noncomputable def E1(g:Str)(ws:List Str)(t:Str)(n:Nat)(cs:List Nat):List Str:=cs.flatMap λc=>(c6 g ws (t++{#[c]}) n).map λr=>({#[c]}:Str)++r
theorem sA(t:Str)(n c:Nat)(j:List Nat):E1 g ws t n (c::j)=((c6 g ws (t++{#[c]}) n).map λr=>({#[c]}:Str)++r)++E1 g ws t n j:=Qn ..
theorem Dj(h:(E1 g ws t n (c::l))[k]?=ρ r)(hk:k<(c6 g ws (t++{#[c]}) n).9):∃j,r=({#[c]}:Str)++j/\(c6 g ws (t++{#[c]}) n)[k]?=ρ j:=by
 rw[sA,Qe (by rw[O5];exact hk),OC]at h
 cases e:(c6 g ws (t++⟨#[c]⟩) n)[k]? with
 |none=>rw[e]at h;cases h
 |some j=>rw[e]at h;exact{j,(Oc h).symm,rfl}
theorem AU(h:(E1 g ws t n (c::j))[k]?=ρ r)(hk:(c6 g ws (t++{#[c]}) n).9<=k):(E1 g ws t n j)[k-(c6 g ws (t++{#[c]}) n).9]?=ρ r:=by
 rw[sA,P5 (by rw[O5];exact hk),O5]at h;exact h
theorem Dk{t:Str}{n:Nat}{j:List Nat}{c:Nat}{rest:List Nat}(e:ch g=j++c::rest){k:Nat}{r:Str}(h:(c6 g ws (t++{#[c]}) n)[k]?=ρ r):(c6 g ws t (n+1))[(j.map λd=>(c6 g ws (t++{#[d]}) n).9).sum+k]?=ρ (({#[c]}:Str)++r):=by
 rw[mL,e]
 have key:∀j:List Nat,((j++c::rest).flatMap λc=>(c6 g ws (t++{#[c]}) n).map λr=>({#[c]}:Str)++r)[(j.map λd=>(c6 g ws (t++{#[d]}) n).9).sum+k]?=ρ (({#[c]}:Str)++r):=by
  intro j
  induction j with
  |nil=>
   show ((c::rest).flatMap _)[0+k]?=_;rw[Nat.zero_add,Qn];have hk:=(O8.mp h).1;rw[Qe (by rw[O5];exact hk),OC,h];rfl
  |cons d a b=>
   rw[VH,Qn,Og,Pa];rw[P5 (by rw[O5];lia),O5];rw[show (c6 g ws (t++{#[d]}) n).9+(a.map λd=>(c6 g ws (t++{#[d]}) n).9).sum+k-(c6 g ws (t++{#[d]}) n).9=(a.map λd=>(c6 g ws (t++{#[d]}) n).9).sum+k by lia];exact b
 exact key j
theorem qA(h:r∈c6 g ws t n):bears ws (t++r)=false/\r.9=n/\wK g r:=by
 let{a,b}:=QC.mp h
 refine{?_,qz n r a,vB n r a}
 cases e:bears ws (t++r) with
 |true=>rw[e]at b;cases b
 |false=>rfl
end
theorem je(g:Str):∀n,(rq g n).9=g.length^n
 |0=>rfl
 |n+1=>by
  show ((rq g n).flatMap λr=>(ch g).map λc=>r++({#[c]}:Str)).length=_
  have:∀l:List Str,(l.flatMap λr=>(ch g).map λc=>r++({#[c]}:Str)).length=l.9*g.9:=by
   intro l
   induction l with
   |nil=>simp
   |cons r l a=>rw[Qn,Oy,a,O5,au,Ov,Nat.succ_mul,Vc]
  rw[this,je g n,Nat.pow_succ]
section
variable{κ:Type}[DecidableEq κ]
noncomputable def bump:List (κ×Int)->κ->Int->List (κ×Int)
 |[],k,v=>[(k,v)]
 |(j,u)::m,k,v=>if j=k then(j,u+v)::m else(j,u)::bump m k v
end
section
variable{E:Str->List Str}
noncomputable def Fl(E:Str->List Str)(a:List (Str×Int))(p:Str×Int):List (Str×Int):=(E p.1).foldl (λa q=>bump a q p.2) a
noncomputable def j8(E:Str->List Str)(m:List (Str×Int)):List (Str×Int):=m.foldl (Fl E) []
end
end _B
namespace _S
section
variable{w:World}{K:O4}
theorem Dl:P7 "all"=ρ (.builtin "all"):=∅
theorem Dm:P7 "any"=ρ (.builtin "any"):=∅
theorem AV:P7 "sorted"=ρ (.builtin "sorted"):=∅
theorem jf:P7 "isinstance"=ρ (.builtin "isinstance"):=∅
theorem kd:P7 "str"=ρ (.type "str"):=∅
theorem vC:P7 "list"=ρ (.type "list"):=∅
theorem HU:P7 "set"=ρ (.type "set"):=∅
inductive AW(vs:List V)(H:Hp)(Q:VK)(gB:XK):Prop
 |mk (a b) (_:vs=[.str a,.str b]) (_:a.9<=1000) (_:∀H',a7 H H'->Q (.bl ((ch a).all λc=>decide (c∈ch b))) H')
inductive AX(K:O4)(vs:List V)(H:Hp)(Q:VK)(gB:XK):Prop
 |mk (r a ws) (_:vs=[.str r,.ref a]) (_:aK K H a (ws.map V.str)) (_:ws.9<=1000) (_:∀H',a7 H H'->Q (.bl (bears ws r)) H')
inductive yW(K:O4)(vs:List V)(H:Hp)(Q:VK)(gB:XK):Prop
 |mk (a ws) (_:vs=[.ref a]) (_:aK K H a (ws.map V.str)) (_:ws.9<=6) (_:(∀w∈ws,w.9<=5)) (_:∀(l:Addr) (ss:List Str) (H':Hp),a7 H H'->H l=τ->H' l=ρ (.lst (ss.map V.str))->ss.Perm (bQ ws "" ws)->Tz ss=true->Q (.ref l) H')
inductive Dn(K:O4)(vs:List V)(H:Hp)(Q:VK)(gB:XK):Prop
 |mk (r a ps) (_:vs=[.str r,.ref a]) (_:aK K H a (ps.map V.str)) (_:("":Str)∈ps) (_:r.9<=1000) (_:∀H',a7 H H'->Q (.str (lend ps r)) H')
noncomputable def Fm(ls:List V):V->V:=λv=>.bl (xO v ls)
inductive AY(K:O4)(vs:List V)(H:Hp)(Q:VK)(gB:XK):Prop
 |mk (a b es ls) (_:vs=[.ref a,.ref b]) (_:aK K H a es) (_:aK K H b ls) (_:es.all cC=true) (_:ls.all cC=true) (_:es.9<=1000) (_:∀H',a7 H H'->Q (.bl (es.any λe=>xO e ls)) H')
inductive Dp(K:O4)(vs:List V)(H:Hp)(Q:VK)(gB:XK):Prop
 |mk (d mv es) (_:vs=[.ref d]) (_:H d=ρ (.dK (bM mv))) (_:mv.9<=1000) (_:(∀m∈mv,H m.2=ρ (.dK (es m.1)))) (_:(∀k,((es k).map (·.2)).all cC=true)) (_:(∀k,(es k).9<=1000)) (_:∀(l:Addr) (ls:List Str) (H':Hp),a7 H H'->H l=τ->H' l=ρ (.lst (ls.map V.str))->EH (mv.map (·.1)) es ls->Q (.ref l) H')
noncomputable def yX(g:Str)(b d q:Addr):List (Str×V):=[("signs",.str g),("barred",.ref b),("moves",.ref d),("lasting",.ref q)]
noncomputable def Gn(g:Str):List (Str×V):=[("signs",.str g)]
noncomputable def Go(g:Str)(b:Addr):List (Str×V):=[("signs",.str g),("barred",.ref b)]
noncomputable def Dq(g:Str)(b d:Addr):List (Str×V):=[("signs",.str g),("barred",.ref b),("moves",.ref d)]
theorem Dr(g:Str):cB "signs" (.str g) []=Gn g:=rfl
theorem put2(g:Str)(b:Addr):cB "barred" (.ref b) (Gn g)=Go g b:=by
 show (if ("signs":Str)="barred" then(("signs":Str),V.ref b)::[] else(("signs":Str),V.str g)::cB "barred" (.ref b) [])=_;rw[if_neg ∅];rfl
theorem put3(g:Str)(b d:Addr):cB "moves" (.ref d) (Go g b)=Dq g b d:=by
 show (if ("signs":Str)="moves" then(("signs":Str),V.ref d)::[(("barred":Str),V.ref b)] else(("signs":Str),V.str g)::(if ("barred":Str)="moves" then(("barred":Str),V.ref d)::[] else(("barred":Str),V.ref b)::cB "moves" (.ref d) []))=_;rw[if_neg ∅,if_neg ∅];rfl
theorem AZ(g:Str)(b d q:Addr):cB "lasting" (.ref q) (Dq g b d)=yX g b d q:=by
 show (if ("signs":Str)="lasting" then(("signs":Str),V.ref q)::[(("barred":Str),V.ref b),(("moves":Str),V.ref d)] else(("signs":Str),V.str g)::(if ("barred":Str)="lasting" then(("barred":Str),V.ref q)::[(("moves":Str),V.ref d)] else(("barred":Str),V.ref b)::(if ("moves":Str)="lasting" then(("moves":Str),V.ref q)::[] else(("moves":Str),V.ref d)::cB "lasting" (.ref q) [])))=_;rw[if_neg ∅,if_neg ∅,if_neg ∅];rfl
theorem gC(g:Str)(b d:Addr):(Dq g b d).lookup ("moves":Str)=ρ (.ref d):=by
 rw[<-put3,aW,if_pos rfl]
theorem fB(g:Str)(b d q:Addr):(yX g b d q).lookup ("moves":Str)=ρ (.ref d):=by
 rw[<-AZ,aW,if_neg ∅];exact gC g b d
theorem wN(hw:∀w∈ws,w.9<=5):∀k∈bQ ws "" ws,k.9<=5:=by
 have h1:∀(w:Str),w.9<=5->∀(n:Nat) (ks:List Str),(∀k∈ks,k.9<=5)->∀k∈upTo ws w ks n,k.9<=5:=by
  intro w Ac n
  induction n with
  |zero=>intro ks h;exact h
  |succ n ih=>
   intro ks h k hk;rw[cW]at hk;unfold kb qw at hk;split at hk
   .exact ih ks h k hk
   .split at hk
    .exact ih ks h k hk
    .rcases P2.mp hk with z |z
     .exact ih ks h k z
     .have:k=aS w (1+n):=by simpa using z
      rw[this];exact Od (wJ _ _) Ac
 have h2:∀(us ks:List Str),(∀w∈us,w.9<=5)->(∀k∈ks,k.9<=5)->∀k∈us.foldl (addW ws) ks,k.9<=5:=by
  intro us
  induction us with
  |nil=>intro ks _ h;exact h
  |cons w us ih=>intro ks hu h;exact ih _ (λv hv=>hu v (Of _ hv)) (h1 w (hu w (Ot ..)) _ ks h)
 exact h2 ws [""] hw (λk hk=>by have:k="":=by simpa using hk
                                subst this
                                decide+kernel)
noncomputable def dR(ns:List Int)(p:Int):Int:=ns.getD p.toNat 0
inductive Ds(K:O4)(vs:List V)(H:Hp)(Q:VK)(gB:XK):Prop
 |mk (a ns p) (_:vs=[.ref a,.int p]) (_:aK K H a (ns.map V.int)) (_:0<=p) (_:Q (.int (dR ns p)) H)
inductive Dt(vs:List V)(H:Hp)(Q:VK)(gB:XK):Prop
 |mk (c t m) (_:vs=[.int c,.int t,.int m]) (_:0<=t) (_:t<=100000) (_:0<m) (_:∀d,0<=d->d<m->Q (.int d) H)
inductive B3(vs:List V)(H:Hp)(Q:VK)(gB:XK):Prop
 |mk (c) (_:vs=[.int c]) (_:∀(x:Str) (H':Hp),bZ x->a7 H H'->Q (.str x) H')
inductive Du(vs:List V)(H:Hp)(Q:VK)(gB:XK):Prop
 |mk (c g) (_:vs=[.int c,.str g]) (_:1<=g.9) (_:g.9<=10) (_:∀(x:Str) (H':Hp),bJ g x->a7 H H'->Q (.str x) H')
theorem Fn:∀d:Int,0<=d->d<8->∃n:Int,iY ([.int 1,.int 2,.int 3,.int 3,.int 4,.int 4,.int 5,.int 5]:List V) d=ρ (.int n)/\1<=n/\n<=5:=by
 intro d a b;have:d=0\/d=1\/d=2\/d=3\/d=4\/d=5\/d=6\/d=7:=();rcases this with rfl |rfl |rfl |rfl |rfl |rfl |rfl |rfl
 .exact⟨1,rfl,⋯,⋯⟩
 .exact⟨2,rfl,⋯,⋯⟩
 .exact⟨3,rfl,⋯,⋯⟩
 .exact⟨3,rfl,⋯,⋯⟩
 .exact⟨4,rfl,⋯,⋯⟩
 .exact⟨4,rfl,⋯,⋯⟩
 .exact⟨5,rfl,⋯,⋯⟩
 .exact⟨5,rfl,⋯,⋯⟩
inductive B6(K:O4)(vs:List V)(H:Hp)(Q:VK)(gB:XK):Prop
 |mk (a:Addr) (ns:List Int) (p:Int) (g:Str) (m:Int) (_:vs=[.ref a,.int p,.str g,.int m]) (_:aK K H a (ns.map V.int)) (_:0<=p) (_:0<=m) (_:m<=100) (_:1<=g.9) (_:g.9<=10) (_:∀(l:Addr) (ws:List Str) (H':Hp),a7 H H'->H l=τ->H' l=ρ (.lst (ws.map V.str))->(ws.9:Int)<=m->(∀w∈ws,bJ g w)->Q (.ref l) H')
theorem B7(g:Str)(b d q:Addr){m:Str}(j:¬m="signs")(l:¬m="barred")(o:¬m="moves")(p:¬m="lasting"):(yX g b d q).lookup m=τ:=by
 rw[<-AZ,aW,if_neg p,<-put3,aW,if_neg o,<-put2,aW,if_neg l,<-Dr,aW,if_neg j];rfl
theorem gD{ss:List Str}{i:Nat}{y:V}(h:(ss.map V.str)[i]?=ρ y):∃p,ss[i]?=ρ p/\y=.str p/\i<ss.9/\p∈ss/\ss.take (i+1)=ss.take i++[p]:=by
 rw[OC]at h
 cases e:ss[i]? with
 |none=>rw[e]at h;cases h
 |some z=>
  rw[e]at h;exact{z,rfl,(Oc h).symm,(O8.mp e).1,Ox e,by rw[Qk,e];rfl}
theorem wO(h:(b2 g)[i]?=ρ y):∃c,(ch g)[i]?=ρ c/\y=.str {#[c]}/\i<(ch g).9/\c∈ch g/\(ch g).take (i+1)=(ch g).take i++[c]:=by
 unfold b2 at h;rw[OC]at h
 cases e:(ch g)[i]? with
 |none=>rw[show g.cps.toList[i]?=τ from e]at h;cases h
 |some z=>
  rw[show g.cps.toList[i]?=ρ z from e]at h;exact{z,rfl,(Oc h).symm,(O8.mp e).1,Ox e,by rw[Qk,e];rfl}
theorem iP(g:Str):(b2 g).9=g.9:=by unfold b2;rw[O5];exact au g
noncomputable def one(c:Nat):Str:={#[c]}
theorem i5(nx:g x=τ)(j:g l=τ):a7 g (upd (upd g l p) x o2):=λb o e=>by rw[a8 (ae e nx),a8 (ae e j)];exact e
theorem yY:P7 "int"=ρ (.type "int"):=∅
theorem Fo:P7 "bool"=ρ (.type "bool"):=∅
theorem Fp:P7 "sum"=ρ (.builtin "sum"):=∅
set_option genInjectivity true in
inductive Thing(H:Hp):V->Prop where
 |flat {v:V} (h:cC v=true):Thing H v
 |lst {a:Addr} {xs:List V} (h:H a=ρ (.lst xs)) (f:xs.all cC=true):Thing H (.ref a)
 |tup {a:Addr} {xs:List V} (h:H a=ρ (.tup xs)) (f:xs.all cC=true):Thing H (.ref a)
 |dic {a:Addr} (h:H a=ρ (.dK [])):Thing H (.ref a)
theorem fC(he:H e=τ)(hd:(upd H e g) d=τ):d≠e/\H d=τ/\del (upd (upd (upd H e g) d o2) e o3) e=upd H d o2:=by
 have a:d≠e:=λz=>by rw[z,a5]at hd;cases hd
 refine{a,by rw[a8 a]at hd;exact hd,?_};rw[pU,tQ a,vf he]
theorem dS(g:Str)(b d q:Addr):(yX g b d q).lookup ("signs":Str)=ρ (.str g):=by
 rw[<-AZ,aW,if_neg ∅,<-put3,aW,if_neg ∅,<-put2,aW,if_neg ∅,<-Dr,aW,if_pos rfl]
def nX(CN:Addr)(nm:Str)(v:V)(H:Hp)(E:XK):Prop:=∀(d:Addr) (H':Hp),a7 H H'->H d=τ->H' d=ρ (.xd [(nm,v)])->E (.ref CN) (ρ d) H'
theorem none_of(s:a7 H g)(h:g d=τ):H d=τ:=by
 cases q:H d with
 |none=>rfl
 |some o=>rw[s _ _ q]at h;cases h
def vD(v:V):Prop:=∃i:Int,v=.int i/\i.natAbs<=1000
inductive yZ(vs:List V)(H:Hp)(Q:VK)(gB:XK):Prop
 |mk (i) (_:vs=[.int i]) (_:Q (.bl true) H)
def eT(C:Addr)(name:Str)(n:Int)(H:Hp)(E:XK):Prop:=∀(d:Addr) (H':Hp),a7 H H'->H d=τ->H' d=ρ (.xd [(name,.int n)])->E (.ref C) (ρ d) H'
end
structure Raw(K:O4)(nm qual:Str)(st:Stmt)(f:Addr):Prop where
 ex:∃(oc:Value) (od:Option Addr) (kV doc pm:Value) (an:Option Addr) (hH ct:Value) (y0:Array (Option Value)),
  K.lookup f=ρ {oc,od,.func (Qh nm qual (bC st) (bc st) (ak st) .none kV doc pm an hH ct),y0}/\RC K hH qual=true
 kp:QL K (.ref f)=true
theorem uq{K:O4}{nm g:Str}{st:Stmt}{f:Addr}{r:Value}{od t:Option Addr}{o:Array (Option Value)}{kV p pm j ct:Value}(l:K.lookup f=ρ {r,od,.func (Qh nm g (bC st) (bc st) (ak st) .none kV p pm t j ct),o})
 (c:RC K j g=true) (k:QL K (.ref f)=true):Raw K nm g st f:={⟨r,od,kV,p,pm,t,j,ct,o,l,c⟩,k}
theorem Raw.fn(R:Raw K nm g st f)
 (h:∀(kV j pm:Value) (p:Option Addr) (o ct:Value) (us:List Value),us.9=ps.9->bindArgs (Qh nm g (bC st) (bc st) (ak st) .none kV j pm p o ct) {us,[]}=pure (ps.zip us)) :
 ∃fd,oO K nm g st f fd/\Binds K fd ps []:=by
 let{{b,d,kV,j,pm,p,o,ct,a,l,c},k}:=R
 have F:=yh (st:=st) l c k;exact{_,F,F.binds h}
theorem Raw.at_{mg:Str->Option Value}(X:K.In l)(G:l.Ns OG mg)(a:PySem.W.nsIn K OG nm=ρ (ρ (.ref f)))(R:Raw K nm nm st f)
 (h:∀(kV g pm:Value) (o:Option Addr) (j ct:Value) (us:List Value),us.9=ps.9->bindArgs (Qh nm nm (bC st) (bc st) (ak st) .none kV g pm o j ct) {us,[]}=pure (ps.zip us)) :
 ∃fd,FnAt K mg nm st ps f fd:=by
 let{fd,F,b}:=R.fn h
 exact{fd,F,b,PySem.W.mg_of X G a}
inductive vE(K:O4)(vs:List V)(H:Hp)(Q:VK)(gB:XK):Prop
 |mk (a:Addr) (ns:List Int) (_:vs=[.ref a]) (_:aK K H a (ns.map V.int)) (_:ns.9<=63) (_:∀H',Q (.bl true) H')
end _S
open _S
namespace K60
section
variable{w:World}
noncomputable def top(i:Nat):Stmt:=À.main.body.getD i (.Pass ⟨0,0,0,0⟩)
theorem dU{X:Cx}{f}:(X.iD f).K=X.K:=rfl
theorem bj{x p y q e}:(Rk [.Name x p,.Name y q] e).9=2:=rfl
theorem bo{x p y q z r e}:(Rk [.Name x p,.Name y q,.Name z r] e).9=3:=rfl
structure Txt(mg:Str->Option Value):Prop where
 «all»:mg "all"=τ
 «any»:mg "any"=τ
 «bool»:mg "bool"=τ
 «dict»:mg "dict"=τ
 «enum»:mg "enumerate"=τ
 «int»:mg "int"=τ
 «vF»:mg "isinstance"=τ
 «len»:mg "len"=τ
 «list»:mg "list"=τ
 «max»:mg "max"=τ
 «min»:mg "min"=τ
 «range»:mg "range"=τ
 «reversed»:mg "reversed"=τ
 «set»:mg "set"=τ
 «sorted»:mg "sorted"=τ
 «str»:mg "str"=τ
 «sum»:mg "sum"=τ
structure B8(K:O4)(C:Addr):Prop where
 cl:pR K C
 i6:aP K C "signs"
 z4:aP K C "barred"
 fD:aP K C "moves"
 wQ:aP K C "lasting"
structure wR(K:O4)(C:Addr):Prop where
 cl:pR K C
 mM:aP K C "writer"
 Gp:aP K C "pairs"
structure z5(K:O4)(C:Addr):Prop where
 cl:pR K C
 B9:aP K C "homes"
 wU:aP K C "weights"
 Bb:aP K C "lines"
structure Bc(K:O4)(C:Addr):Prop where
 cl:pR K C
 wU:aP K C "weights"
 Fq:aP K C "splits"
 HV:aP K C "kept"
 HW:aP K C "last"
structure wV(K:O4)(C:Addr):Prop where
 cl:pR K C
 Fs:aP K C "scheme"
 mN:aP K C "band"
 HX:aP K C "many"
 HY:aP K C "wide"
 B9:aP K C "homes"
 Bb:aP K C "lines"
 E2:aP K C "opening"
 Gq:aP K C "first"
structure Be(K:O4)(C:Addr):Prop where
 cl:pR K C
 mN:aP K C "band"
 mM:aP K C "writer"
theorem cX:hG ["self","signs","barred","places","place"] ["self","signs","barred"] (ak (inClass (top 31) 0)):={rfl,rfl,rfl,∅,rfl,∅,∅}
theorem z6{c:Nat}(h:48<=c/\c<=57):AR ({#[c]}:Str) (OM "0123456789")=true:=by
 have:c=48\/c=49\/c=50\/c=51\/c=52\/c=53\/c=54\/c=55\/c=56\/c=57:=1.0;rcases this with rfl |rfl |rfl |rfl |rfl |rfl |rfl |rfl |rfl |rfl<;>decide+kernel
noncomputable abbrev Jw(v:V):List (Str×V):=[("band",v)]
noncomputable abbrev fd2(v w:V):List (Str×V):=[("band",v),("writer",w)]
theorem Ft(v:V):cB "band" v []=Jw v:=rfl
theorem Fu(v w:V):cB "writer" w (Jw v)=fd2 v w:=pq (by show ("writer":Str)∉[("band":Str)];decide+kernel)
theorem Fv(v u w:V):cB "band" v (fd2 u w)=fd2 v w:=if_pos rfl
theorem Fw(v u w:V):cB "writer" w (fd2 v u)=fd2 v w:=by
 show (if ("band":Str)="writer" then(("band":Str),w)::[("writer",u)] else("band",v)::cB "writer" w [("writer",u)])=_;rw[if_neg ∅];rfl
theorem Ch(v w:V):(fd2 v w).lookup ("band":Str)=ρ v:=sy (fs:=[]) (by simp)
noncomputable abbrev ke(C dx:Addr)(v:V):HO:=.ins C dx (fd2 v .non)
inductive Bg(C:Addr)(vs:List V)(H:Hp)(Q:VK)(gB:XK):Prop
 |mk (x dx) (_:vs=[.ref x]) (_:H x=ρ (.ins C dx [])) (_:∀H',(∀c o,H c=ρ o->c≠x->H' c=ρ o)->H' x=ρ (ke C dx .non)->Q .non H')
theorem jg:hG ["self","signs","barred"] ["self","signs","barred"] (ak (inClass (top 102) 2)):={rfl,rfl,rfl,∅,rfl,∅,∅}
noncomputable abbrev SP:Str:={#[32]}
def Fx(Q:VK):VK:=λv H'=>∀p wW,a7 H' wW->wW p=ρ (.tup [v,.non])->Q (.ref p) wW
theorem Ci:(OM " ")=SP:=∅
theorem mO{g:Str}:∀{ws:List Str},(∀w∈ws,bJ g w)->(ws.map (·.9)).sum<=ws.9*5
 |[],_=>Ob _
 |w::ws,h=>by
  have:=mO λw hw=>h w (Of _ hw);have:=(h w Ot).hi;simp only[Og,Pa,Ov];omega
theorem gE(p:Str->Bool)(pv:V->Bool)(h:∀r,pv (.str r)=p r):∀l:List Str,(l.map V.str).filter pv=(l.filter p).map V.str
 |[]=>rfl
 |r::l=>by
  rw[Og]
  by_cases e:p r=true
  .rw[Q1 (by rw[h];exact e),Q1 e,Og,gE p pv h l]
  .rw[QS (by rw[h];exact e),QS e,gE p pv h l]
theorem lX(g:Str)(ws:List Str)(t:Str)(n:Nat):(rq g n).filter (λr=>!bears ws (t++r))=c6 g ws t n:=by rw[jd];rfl
theorem pw{a b:Str}(j:32∉ch a)(l:32∉ch b):∀p∈[a,b],32∉ch p:=by
 intro p c;rcases Oi.mp c with rfl |c
 .exact j
 .rw[Oz.mp c];exact l
theorem z7(a b:Str):("row ":Str)++a++(" ":Str)++b=P6 SP ["row",a,b]:=by
 show _=("row":Str)++SP++(a++SP++b);rw[Ci,cx,cx,<-cx a];rfl
def Jx(C:Addr)(H:Hp)(Q:VK):Prop:=∀e p H',a7 H H'->H' e=ρ (XC e C τ)->H' p=ρ (.tup [.non,.ref e])->Q (.ref p) H'
def Lf(C:Addr)(f:Str)(i:Int)(H:Hp)(Q:VK):Prop:=∀e d p H',a7 H H'->H' e=ρ (XC e C (ρ d))->H' d=ρ (.xd [(f,.int i)])->H' p=ρ (.tup [.non,.ref e])->Q (.ref p) H'
theorem Fy:ch ("band ":Str)=ch ("band":Str)++[32]:=∅
theorem Fz:ch (" ":Str)=[32]:=∅
theorem HZ:ch ("  ":Str)=[32,32]:=∅
theorem Jy:ch ("":Str)=[]:=∅
theorem Dv(c:Nat):sx ({#[c]}:Str):=.inl (show 1<2 by decide)
theorem wX{g:Str}(sg:bZ g):∃c d r,ch g=c::d::r:=by
 have h:=sg.lo;rw[<-au]at h
 match e:ch g with
 |[]=>rw[e]at h;cases h
 |[_]=>rw[e]at h;exact absurd (show 2<=1 from h) ⋯
 |c::d::r=>exact⟨c,d,r,rfl⟩
noncomputable def nY(g:Str):Int:=if g.9=2 then 5 else if g.9=3 then 4 else 3
theorem lY{g:Str}(sg:bZ g):iY [V.int 5,V.int 4,V.int 3] ((g.9:Int)-2)=ρ (.int (nY g))/\0<nY g:=by
 have a:=sg.lo;have b:=sg.hi;unfold nY;have:g.9=2\/g.9=3\/g.9=4:=1.0;rcases this with e |e |e<;>rw[e]<;>exact{rfl,⋯}
theorem z8{g:Str}(sg:bZ g){n:Nat}(h:(n:Int)<nY g):g.length^n<=100/\n<=10:=by
 have a:=sg.lo;have b:=sg.hi;have:g.9=2\/g.9=3\/g.9=4:=1.0;unfold nY at h;rcases this with e |e |e<;>rw[e]at h ⊢
 .have hn:n<=4:=by have:(n:Int)<5:=h;omega
  exact{Od (Qj ⋯ hn) ⋯,1.0}
 .have hn:n<=3:=by have:(n:Int)<4:=h;omega
  exact{Od (Qj ⋯ hn) ⋯,1.0}
 .have hn:n<=2:=by have:(n:Int)<3:=h;omega
  exact{Od (Qj ⋯ hn) ⋯,1.0}
noncomputable def Ia(ns:List Int)(H:Hp)(v:V):V:=match v with
 |.ref t=>(match H t with
  |some (.tup (.str g::_))=>.int (dR ns 16%nY g)
  |_=>.non)
 |_=>.non
theorem ur{ns:List Int}{H:Hp}{t w:Addr}{g r:Str}(h:H t=ρ (.tup [.str g,.ref w,.str r])):Ia ns H (.ref t)=.int (dR ns 16%nY g):=by
 delta Ia;simp only[h]
theorem Jz{g:Str}(c:Int)(sg:bZ g):∃n:Nat,c%nY g=(n:Int)/\g.length^n<=100/\n<=10:=by
 have h:=(lY sg).2;have a:=R8 c (by omega:nY g≠0);have b:=QB c h;exact{(c%nY g).toNat,1.0,z8 sg 1.0}
structure Dw(H:Hp)(t1 w1 t2 w2 ll:Addr)(g1 g2:Str)(JA JB:List Str)(n1 n2:Nat):Prop where
 t1:H t1=ρ (.tup [.str g1,.ref w1,.str (P6 SP ("band" :: g1::JA))])
 w1:H w1=ρ (.lst (JA.map V.str))
 t2:H t2=ρ (.tup [.str g2,.ref w2,.str (P6 SP ("band" :: g2::JB))])
 w2:H w2=ρ (.lst (JB.map V.str))
 ll:H ll=ρ (.lst [.int n1,.int n2])
end
section
variable{g:Str}
theorem dW{CX P w K mg base N q sc f cd A o s H E}:(mw CX P w K mg base N q sc f cd A o s H E).K=K:=rfl
theorem kf{c:Nat}(h:c∈ch g):bJ g ({#[c]}:Str):={Ob 1,(show 1<=5 by decide),λd hd=>(Oz.mp hd) ▸ h}
end
section
variable{w:World}{K:O4}
inductive Dx(K:O4)(vs:List V)(H:Hp)(Q:VK)(gB:XK):Prop
 |mk (a:Addr) (ns:List Int) (p:Int) (_:vs=[.ref a,.int p]) (_:aK K H a (ns.map V.int)) (_:0<=p) (_:∀(t lw:Addr) (g:Str) (ws:List Str) (H':Hp),a7 H H'->H' t=ρ (.tup [.str g,.ref lw,.str (P6 SP ("band" :: g::ws))])->H' lw=ρ (.lst (ws.map V.str))->bZ g->ws.9<=6->(∀w∈ws,bJ g w)->Q (.ref t) H')
inductive Bh(K:O4)(vs:List V)(H:Hp)(Q:VK)(gB:XK):Prop
 |mk (g:Str) (lw:Addr) (ws:List Str) (n:Nat) (_:vs=[.str g,.ref lw,.int (n:Int)]) (_:aK K H lw (ws.map V.str)) (_:ws.9<=6) (_:g.length^n<=100) (_:2<=g.9) (_:g.9<=10) (_:n<=10) (_:∀(l:Addr) (H':Hp),a7 H H'->H l=τ->H' l=ρ (.lst ((c6 g ws "" n).map V.str))->Q (.ref l) H')
end
end K60
namespace _L
open PySem.Spec PyProof.Rows
section
variable{X:Cx}
noncomputable def FA(r:Str):V->V:=λv=>match v with
 |.str y=>.bl (_B.AR y r)
 |_=>.non
theorem sC(r:Str)(ws:List Str):(ws.map V.str).map (FA r)=(ws.map λw=>_B.AR w r).map V.bl:=by
 rw[OS,OS];rfl
theorem wY(a b:Str):(b2 a).map (FA b)=((_B.ch a).map λc=>decide (c∈_B.ch b)).map V.bl:=by
 unfold b2;rw[OS,OS];refine QR λc _=>?_;show V.bl (_B.AR {#[c]} b)=V.bl (decide (c∈_B.ch b));rw[_B.vy]
theorem wZ(g:List Str)(b:Str):putK (fN g) (Ou b:Key) (.bl true)=fN (_B.qw g b):=by
 unfold putK _B.qw
 by_cases h:b∈g
 .have a:((fN g).any λc=>decide (c.1=(Ou b:Key)))=true:=by
   refine PR.mpr {(Ou b,.bl true),?_,decide_eq_true rfl};exact Ol.mpr ⟨b,h,rfl⟩
  rw[if_pos a,if_pos h];delta fN;rw[OS];refine QR λk _=>?_;show (if (Ou k:Key)=Ou b then((Ou k:Key),V.bl true) else((Ou k:Key),V.bl true))=_;split<;>rfl
 .have a:¬((fN g).any λc=>decide (c.1=(Ou b:Key)))=true:=by
   intro z
   let{p,d,e}:=PR.mp z
   let{k,hk,rfl}:=Ol.mp d
   have:(Ou k:Key)=Ou b:=of_decide_eq_true e;have:k=b:=Rb this;subst this;exact h hk
  rw[if_neg a,if_neg h];delta fN;rw[OV];rfl
theorem jh(h:(_B.ch x).Nodup):∀i,i<=x.cps.size->bf (bD x) i=(PL i).map (bD x)
 |0,_=>rfl
 |i+1,hi=>by
  have c:=jh h i 1.0;rw[cn,c,TR,OV];delta kF;rw[if_neg]
  .rfl
  .intro z
   let{y,d,e}:=PR.mp z
   let{j,f,rfl}:=Ol.mp d
   have l:j<i:=Sv.mp f;have a:bD x j=bD x i:=eq_of_beq e;unfold bD at a
   have b:x.cps.getD j 0=x.cps.getD i 0:=by
    injection a with m
    have:=congrArg Array.toList m;simpa using this
   have g:∀k,(hk:k<x.cps.size)->x.cps.getD k 0=(_B.ch x)[k]'(by simpa using hk):=λk hk=>by
    simp[Array.getD,hk]
   rw[g j 1.0,g i 1.0]at b;have:=(QN h).mp b;omega
theorem sD(h:(_B.ch x).Nodup):(bf (bD x) x.cps.size).9=x.9:=by
 rw[jh h _ (Ob _),O5,T9];rfl
noncomputable def lZ(ws ps:List Str)(p:Str)(c:Nat):V:=if bears ws (p++{#[c]})=true then .non else .str (lend ps (p++{#[c]}))
noncomputable def rowOf(g:Str)(ws ps:List Str)(p:Str):List (Key×V):=(ch g).map λc=>((Ou ({#[c]}:Str):Key),lZ ws ps p c)
theorem x1(g:Str)(ws ps:List Str)(p:Str):(rowOf g ws ps p).9=g.9:=by delta rowOf;rw[O5,au]
theorem uv(g:Str)(ws ps:List Str)(p:Str):((rowOf g ws ps p).map (·.2)).all cC=true:=by
 delta rowOf;rw[OS];refine OD.mpr λv a=>?_
 let{c,1}:=Ol.mp a
 show cC (lZ ws ps p c)=true;unfold lZ;split<;>rfl
theorem vG(h:c∈ch g):dO (rowOf g ws ps p) (Ou ({#[c]}:Str):Key)=ρ (lZ ws ps p c):=
 ye (lZ ws ps p) (λc=>({#[c]}:Str)) (λa b e=>by
  grind) h
theorem kg{z:Str}{g:TG}{t:TS}{D:Ends}{σ:St}{H:Hp}(Pv:Nat->St->Hp->Prop)(I:Pv 0 σ H)
 (J:∀i c σ H T,(_B.ch z)[i]?=ρ c->Pv i σ H->H T=τ->g (.ref T) σ (upd H T (.tup [.int (i:Nat),.str {#[c]}])) λj r=>t (D.lp (Pv (i+1))) j r) (hd:∀σ H,Pv z.length σ H->D.nx σ H) :
 ∃W:Nat->Nat->St->Hp->Prop,(∃m,W 0 m σ H)/\∀i m σ H,W i m σ H ->
  ((y4 z).stop i H/\D.nx σ H)\/((y4 z).go i H/\∃N:St->Hp->Prop,(∀l o,N l o->∃C,C<m/\W (i+1) C l o)/\∀x o,(y4 z).tJ i H x o->g x σ o λj r=>t (D.lp N) j r):=by
 refine{λi m σ H=>m=z.9-i/\i<=z.9/\Pv i σ H,{z.9,by simp,OZ _,I},?_};rintro i m σ H ⟨rfl,hi,p⟩
 by_cases a:i<z.9
 .refine .inr {a,Pv (i+1),λl o b=>{z.9-(i+1),(),rfl,a,b},λx o y=>?_}
  let{T,d,f,h}:=y
  subst f h
  have hc:(_B.ch z)[i]?=ρ (z.cps.getD i 0):=by
   have:i<z.cps.size:=a;rw[QD];simp[this]
  exact J i _ σ _ T hc p d
 .have e:i=z.9:=();subst e;exact .inl {Ob _,hd σ H p}
theorem ah{i:Nat}{x:Str}{e:Expr}{j:TE}{g:Pos}(he:PE X e j)(l:X.N.Nodup:=by assumption)(hi:X.N[i]?=ρ x:=by rfl)(hx:Loc X.env.scope x:=by first |exact Rv rfl |exact Or.inr rfl)(o:QK e (ρ (.Name x g)) pos.line X.5=pure false:=by rfl)
 (p:X.fn x=true\/X.env.scope.names.lookup x=ρ .local:=by first |exact .inl rfl |exact .inr rfl |assumption):PS X (.Assign [.Name x g] e pos) (wm j (gi i)):=
 yx l hi hx he o p
theorem aj{i:Nat}{x:Str}(g:X.N.Nodup:=by assumption)(hi:X.N[i]?=ρ x:=by rfl)(hx:Loc X.env.scope x:=by first |exact Rv rfl |exact Or.inr rfl)(j:X.fn x=true\/X.env.scope.names.lookup x=ρ .local:=by first |exact .inl rfl |exact .inr rfl |assumption):PG X (.Name x pos) (gi i):=
 lQ g hi hx j
theorem z9{κ:Type}:∀{kvs:List (κ×V)} {vs:List (κ×Value)},KV kvs vs->∀{i:Nat} {p:κ×V},kvs[i]?=ρ p->∃q,vs[i]?=ρ q/\p.1=q.1/\RelV p.2 q.2
 |_,_,.nil,i,p,h=>by simp at h
 |_,_,.cons r t,i,p,h=>by
  cases i with
  |zero=>exact{1,by have:=Oc h;subst this;exact r}
  |succ i=>exact z9 t h
noncomputable def bL(g:Str)(ws ss:List Str)(p:Str):List Str:=(ch g).filterMap λc=>if bears ws (p++{#[c]})=true then τ else ρ (lend ss (p++{#[c]}))
theorem sE(ws ss:List Str)(p:Str)(g:List Nat):((g.map (lZ ws ss p)).filter tR)=(g.filterMap λc=>if bears ws (p++{#[c]})=true then τ else ρ (lend ss (p++{#[c]}))).map V.str:=by
 induction g with
 |nil=>rfl
 |cons c g a=>
  grind [lZ,lend,tR]
theorem uw(g:Str)(ws ss:List Str)(p:Str):(bL g ws ss p).9<=g.9:=by
 delta bL;have:=Tu (λc=>if bears ws (p++{#[c]})=true then τ else ρ (lend ss (p++({#[c]}:Str)))) (ch g);rw[au]at this;exact this
noncomputable def cz(g:Str)(ws ss:List Str):Nat->Str->Int
 |0,_=>1
 |n+1,p=>((bL g ws ss p).map (cz g ws ss n)).sum
noncomputable abbrev ux(g:Str)(ws ss:List Str)(n:Nat):List (Key×V):=k6 (λp=>.int (cz g ws ss n p)) ss
noncomputable def JC(ws ss:List Str)(p:Str):V->V:=λv=>match v with
 |.str z=>lZ ws ss p (z.cps.getD 0 0)
 |_=>.non
theorem x2(g:Str)(ws ss:List Str)(p:Str):(b2 g).map (JC ws ss p)=(ch g).map (lZ ws ss p):=by
 unfold b2;rw[OS];rfl
theorem pz(s:a7 g H):a7 (dN H j) (dN g j):=λa o e=>by
 unfold dN at e ⊢
 cases h:H a with
 |none=>rw[h]at e;rw[none_of s h];exact e
 |some z=>rw[h]at e;cases e
end
section
variable{X:Cx}{x:Str}{pos:Pos}{e:Expr}{te:Eu}{i:Nat}{pos':Pos}
theorem Bi(g:X.N.Nodup)(hi:X.N[i]?=ρ x)(hx:Loc X.env.scope x)(he:Jq X e te)(j:QK e (ρ (.Name x pos')) pos.line X.5=pure false:=by rfl)(l:X.fn x=true\/X.env.scope.names.lookup x=ρ .local:=by first |exact .inl rfl |exact .inr rfl |assumption) :
 Jr X (.Assign [.Name x pos'] e pos) (HL te i):=by
 refine{?_};intro a s σ H D E I h;refine Qm (OB (he a s σ H _ (E σ) I h) (λv b ⟨y,c,d,f,k⟩=>?_) λn b z=>⟨σ,z⟩) j;exact dP d g hi hx f (λo m=>{_,c,m,k}) l
end
section
variable{P:Om}{w:World}{K:O4}{mg:Str->Option Value}{base:Heap}{N:List Str}{qual:Str}{f:Addr}{A:Around}{outer:List Env}{s:Shared}{H:Hp}{E:XK}
theorem oO.Ib{x qual:Str}{st:Stmt}{f:Addr}{fd:P0}{N ps:List Str}{k:Nat}{sp:Sp}(F:oO K x qual st f fd)(S:hG N ps (ak st))(len:∀vs H Q E,sp vs H Q E->vs.9=ps.9)
 (j:∀(g:Value) (A:Around) (outer:List Env) (s:Shared) (H:Hp) (vs:List V) (Q:VK) (E:XK),bA k (A.deeper (envOfC qual (ak st) s.heap.objs.size f g))->sp vs H Q E ->
   ∃t,q8 (mw (oY P w) P w K mg base N qual (ak st) f g A outer s H E) (bc st) t/\t (Ends.fn Q) (start N vs) H):aH P w K mg base (oY P w) (k+1) f fd ps sp:=by
 let{h,i,kV,c,pm,l,g,ct,d,rfl,lk,a}:=F.ex
 exact Cg lk a S len λA outer s H vs Q E e b=>j g A outer s H vs Q E e b
end
end _L
namespace _B
structure Out(g r:Str)(i:Nat):Prop where
 at_:∃c,(ch r)[i]?=ρ c/\c∉ch g
 lo:∀j c,j<i->(ch r)[j]?=ρ c->c∈ch g
theorem Out.lt(o:Out g r i):i<r.9:=by
 let{c,h,_}:=o.at_
 rw[<-au];exact(O8.mp h).1
theorem Out.one(o:Out g r i)(p:Out g r j):i=j:=by
 rcases Ta i j with h |h |h
 .let{c,hc,hn}:=o.at_
  exact absurd (p.lo i c h hc) hn
 .exact h
 .let{c,hc,hn}:=p.at_
  exact absurd (o.lo j c h hc) hn
theorem Out.no(o:Out g r i)(h:wK g r):False:=by
 let{c,hc,hn}:=o.at_
 exact hn (h c (Ox hc))
noncomputable def E3(g:Str)(ws ss:List Str)(n:Nat)(p:Str)(c:Nat):Int:=if bears ws (p++{#[c]})=true then 0 else cz g ws ss n (lend ss (p++{#[c]}))
noncomputable def FC(g:Str)(ws ss:List Str)(n:Nat)(p:Str):V->V:=λv=>match v with
 |.str z=>.int (E3 g ws ss n p (z.cps.getD 0 0))
 |_=>.non
def FD(H:Hp)(v:V):Prop:=Thing H v/\∀z,v=.str z->sx z/\z.9<=100
def sF(g:Str)(H:Hp)(v:V):Prop:=Thing H v/\∀z,v=.str z->fP g z/\z.9<=100
theorem Cj(g:Thing H v)(hn:∀z,v≠.str z):∃t,dE K H v t/\Uj K t (.type "str")=ρ false:=by
 cases g with
 |flat f=>
  cases v with
  |non=>exact{_,.non,rfl}
  |bl z=>exact{_,.bl z,rfl}
  |int z=>exact{_,.int z,rfl}
  |str z=>exact absurd rfl (hn z)
  |flt z=>exact{_,.flt z,rfl}
  |ref z=>cases f
  |ty z=>cases f
  |_=>cases f
 |lst h f=>exact{_,.lst h,rfl}
 |tup h f=>exact{_,.tup h,rfl}
 |dic h=>exact{_,.dK h,rfl}
theorem Bj(s:a7 g H)(hx:g x=τ):a7 (newX H j x) (dN g j):=λa o e=>by
 unfold newX at e;split at e
 .rename_i h;subst h;exact me hx e
 .exact pz s _ _ e
theorem uz(z:Str)(n:Nat):ch (QM z (n:Int))=(P9 n (ch z)).flatten:=by
 unfold QM
 by_cases c:(n:Int)<1
 .rw[if_pos c];obtain rfl:n=0:=1.0;rfl
 .rw[if_neg c]
  by_cases a:((n:Int)==1 ||z.9==0)=true
  .rw[if_pos a];rcases Bool.or_eq_true_iff.mp a with b |b
   .obtain rfl:n=1:=by have:=eq_of_beq b;omega
    simp
   .rw[eM (eq_of_beq b)];simp
  .rw[if_neg a,Pb];exact yU z n #[]
theorem qD(z:Str)(n:Nat):(QM z (n:Int)).length=n*z.9:=by
 rw[<-au,uz,UO,SM,List.sum_replicate_nat,au]
theorem Dy(z:Str)(n:Nat):∀c∈ch (QM z (n:Int)),c∈ch z:=λc h=>by
 rw[uz]at h
 let{l,b,a}:=List.mem_flatten.mp h
 rw[(R9.mp b).2]at a;exact a
section
variable{g:Str}{ws ss:List Str}
theorem Dz(n:Nat):∀p,0<=cz g ws ss n p:=by
 induction n with
 |zero=>intro p;show (0:Int)<=1;decide
 |succ n a=>intro p;exact Dh λe _=>a e
theorem zb(n:Nat)(p:Str):cz g ws ss (n+1) p=((ch g).map λc=>if bears ws (p++{#[c]})=true then 0 else cz g ws ss n (lend ss (p++{#[c]}))).sum:=by
 show ((bL g ws ss p).map (cz g ws ss n)).sum=_;delta bL;rw[il];congr 1;refine QR λc _=>?_;cases bears ws (p++⟨#[c]⟩)<;>rfl
end
end _B
namespace _S
structure b7(C:Addr)(H:Hp)(x:Addr)(g:Str)(ws ss ls:List Str):Prop where
 ex:∃(dx b d q:Addr) (mv:List (Str×Addr)),H x=ρ (.ins C dx (yX g b d q))/\H b=ρ (.lst (ws.map V.str))/\H d=ρ (.dK (bM mv))/\mv.map (·.1)=ss/\(∀m∈mv,H m.2=ρ (.dK (rowOf g ws ss m.1)))/\H q=ρ (.lst (ls.map V.str))
 pm:ss.Perm (bQ ws "" ws)
 so:Tz ss=true
 lv:EH ss (rowOf g ws ss) ls
theorem b7.same(B:b7 C H x g ws ss ls)(s:a7 H j):b7 C j x g ws ss ls:=by
 let{{a,b,d,q,c,e,f,h,i,k,n},p,o,l}:=B
 exact{{a,b,d,q,c,s _ _ e,s _ _ f,s _ _ h,i,λm r=>s _ _ (k m r),s _ _ n},p,o,l}
inductive zf(C:Addr)(vs:List V)(H:Hp)(Q:VK)(gB:XK):Prop
 |mk (x g ws ss ls) (_:vs=[.ref x]) (_:b7 C H x g ws ss ls) (_:∀(l:Addr) (H':Hp),a7 H H'->H l=τ->H' l=ρ (.lst (ss.map V.str))->Q (.ref l) H')
theorem b7.nd(B:b7 C H x g ws ss ls):ss.Nodup:=B.pm.nodup_iff.mpr (kH ws)
inductive Ic(C:Addr)(vs:List V)(H:Hp)(Q:VK)(gB:XK):Prop
 |mk (x p g ws ss ls) (_:vs=[.ref x,.str p]) (_:b7 C H x g ws ss ls) (_:p∈ss) (_:Q .non H)
inductive FE(C:Addr)(vs:List V)(H:Hp)(Q:VK)(gB:XK):Prop
 |mk (x p c g ws ss ls) (_:vs=[.ref x,.str p,.str ⟨#[c]⟩]) (_:b7 C H x g ws ss ls) (_:p∈ss) (_:c∈ch g) (_:Q (lZ ws ss p c) H)
theorem Thing.same(t:Thing H v)(s:a7 H g):Thing g v:=by
 cases t with
 |flat h=>exact .flat h
 |lst h f=>exact .lst (s _ _ h) f
 |tup h f=>exact .tup (s _ _ h) f
 |dic h=>exact .dic (s _ _ h)
theorem nX.same(n:nX g nm v H E)(s:a7 H j):nX g nm v j E:=λd a b c e=>n d a (s.trans b) (none_of s c) e
inductive sH(C CN:Addr)(vs:List V)(H:Hp)(Q:VK)(E:XK):Prop
 |mk (x r g ws ss ls) (_:vs=[.ref x,.str r]) (_:b7 C H x g ws ss ls) (_:r.9<=1000) (_:((wK g r/\∀H',a7 H H'->Q .non H')\/(∃i,Out g r i/\nX CN "number" (.int (i:Nat)) H E)))
inductive zg(C CN CB:Addr)(vs:List V)(H:Hp)(Q:VK)(E:XK):Prop
 |mk (x r g ws ss ls) (_:vs=[.ref x,.str r]) (_:b7 C H x g ws ss ls) (_:r.9<=1000) (_:(∀w∈ws,1<=w.9)) (_:((wK g r/\bears ws r=false/\∀H',a7 H H'->Q (.str (lend ss r)) H')\/(∃n,wK g r/\Bad ws r n/\nX CB "length" (.int ((n:Nat)+1)) H E)\/(∃i,Out g r i/\nX CN "number" (.int (i:Nat)) H E)))
inductive uA(C:Addr)(vs:List V)(H:Hp)(Q:VK)(gB:XK):Prop
 |mk (x p g ws ss ls) (_:vs=[.ref x,.str p]) (_:b7 C H x g ws ss ls) (_:p∈ss) (_:g.9<=10) (_:∀(l:Addr) (H':Hp),a7 H H'->H l=τ->H' l=ρ (.lst ((bL g ws ss p).map V.str))->Q (.ref l) H')
inductive x6(C:Addr)(vs:List V)(H:Hp)(Q:VK)(gB:XK):Prop
 |mk (x g ws ss ls) (_:vs=[.ref x]) (_:b7 C H x g ws ss ls) (_:g.9<=10) (_:ss.9<=900) (_:∀(d:Addr) (ev:List (Str×Addr)) (H':Hp),a7 H H'->H d=τ->H' d=ρ (.dK (bM ev))->ev.map (·.1)=ss->(∀m∈ev,H' m.2=ρ (.lst ((bL g ws ss m.1).map V.str)))->(∀m∈ev,H m.2=τ)->Q (.ref d) H')
inductive Bk(C:Addr)(vs:List V)(H:Hp)(Q:VK)(gB:XK):Prop
 |mk (x n g ws ss ls) (_:vs=[.ref x,.int n]) (_:b7 C H x g ws ss ls) (_:g.9<=10) (_:ss.9<=900) (_:0<=n) (_:n<=100000) (_:∀(l:Addr) (ts:List Addr) (H':Hp),a7 H H'->H l=τ->H' l=ρ (.lst (ts.map V.ref))->ts.9=n.toNat+1->(∀i t,ts[i]?=ρ t->H' t=ρ (.dK (ux g ws ss i)))->Q (.ref l) H')
inductive Bl(C:Addr)(vs:List V)(H:Hp)(Q:VK)(gB:XK):Prop
 |mk (x n g ws ss ls) (_:vs=[.ref x,.int n]) (_:b7 C H x g ws ss ls) (_:g.9<=10) (_:ss.9<=900) (_:0<=n) (_:n<=100000) (_:∀H',a7 H H'->Q (.int (cz g ws ss n.toNat "")) H')
inductive zh(C:Addr)(vs:List V)(H:Hp)(Q:VK)(gB:XK):Prop
 |mk (x p n g ws ss ls) (_:vs=[.ref x,.str p,.int n]) (_:b7 C H x g ws ss ls) (_:p∈ss) (_:g.9<=10) (_:ss.9<=900) (_:0<=n) (_:n<=100000) (_:∀H',a7 H H'->Q (.int (cz g ws ss n.toNat p)) H')
inductive x8(C:Addr)(vs:List V)(H:Hp)(Q:VK)(gB:XK):Prop
 |mk (x dc p c n g ws ss ls) (_:vs=[.ref x,.str p,.str ⟨#[c]⟩,.ref dc]) (_:b7 C H x g ws ss ls) (_:p∈ss) (_:c∈ch g) (_:H dc=ρ (.dK (ux g ws ss n))) (_:Q (.int (E3 g ws ss n p c)) H)
inductive zi(C CN:Addr)(vs:List V)(H:Hp)(Q:VK)(E:XK):Prop
 |mk (x:Addr) (n:Nat) (k:Int) (g:Str) (ws ss ls:List Str) (_:vs=[.ref x,.int (n:Int),.int k]) (_:b7 C H x g ws ss ls) (_:(∀w∈ws,1<=w.9)) (_:g.9<=10) (_:ss.9<=900) (_:n<=1000) (_:((∃(q:Nat) (r:Str),k=q/\(c6 g ws "" n)[q]?=ρ r/\∀H',a7 H H'->Q (.str r) H')\/((k<0\/cz g ws ss n ""<=k)/\∀H',a7 H H'->E (.ref CN) τ H')))
inductive x9(C CR CB:Addr)(vs:List V)(H:Hp)(Q:VK)(E:XK):Prop
 |mk (x r g ws ss ls) (_:vs=[.ref x,.str r]) (_:b7 C H x g ws ss ls) (_:(∀w∈ws,1<=w.9)) (_:(ch g).Nodup) (_:g.9<=10) (_:ss.9<=900) (_:r.9<=1000) (_:((∃k:Nat,(c6 g ws "" r.9)[k]?=ρ r/\∀H',a7 H H'->Q (.int (k:Int)) H')\/(∃n,wK g r/\Bad ws r n/\nX CB "length" (.int ((n:Nat)+1)) H E)\/(∃i,Out g r i/\nX CR "number" (.int (i:Nat)) H E)))
inductive DA(vs:List V)(H:Hp)(Q:VK)(gB:XK):Prop
 |mk (v) (_:vs=[v]) (_:((∃z,v=.str z/\bZ z/\∀H',a7 H H'->Q (.bl true) H')\/(FD H v/\∀H',a7 H H'->Q (.bl false) H')))
inductive DB(vs:List V)(H:Hp)(Q:VK)(gB:XK):Prop
 |mk (v g) (_:vs=[v,.str g]) (_:((∃z,v=.str z/\bJ g z/\∀H',a7 H H'->Q (.bl true) H')\/(sF g H v/\∀H',a7 H H'->Q (.bl false) H')))
inductive zj(K:O4)(CT CW:Addr)(vs:List V)(H:Hp)(Q:VK)(E:XK):Prop
 |mk (a g xs) (_:vs=[.ref a,.str g]) (_:aK K H a xs) (_:xs.9<=100) (_:(∀x∈xs,(∃z,x=.str z/\bJ g z)\/sF g H x)) (_:((6<xs.9/\eT CT "many" xs.length H E)\/(xs.9<=6/\(∀x∈xs,∃z,x=.str z/\bJ g z)/\∀H',a7 H H'->Q .non H')\/(xs.9<=6/\∃i x,xs[i]?=ρ x/\sF g H x/\(∀(j:Nat) y,j<i->xs[j]?=ρ y->∃z,y=.str z/\bJ g z)/\eT CW "number" (i:Nat) H E)))
def Bm(K:O4)(C CS CT CW:Addr):Sp:=λvs H Q E=>
 (∃(x dx:Addr) (g:Str) (a:Addr) (ws:List Str),vs=[.ref x,.str g,.ref a]/\H x=ρ (.ins C dx [])/\aK K H a (ws.map V.str)/\bZ g/\ws.9<=6/\(∀w∈ws,bJ g w) /\
   ∀(ss ls:List Str) (H':Hp),b7 C (newX H H' x) x g ws ss ls->(∀b o,H b=ρ o->b≠x->H' b=ρ o)->Q .non H') \/
 (∃(x a:Addr) (v:V),vs=[.ref x,v,.ref a]/\FD H v/\∀H',a7 H H'->E (.ref CS) τ H') \/
 (∃(x a:Addr) (g:Str) (xs:List V),vs=[.ref x,.str g,.ref a]/\bZ g/\aK K H a xs/\xs.9<=100/\(∀x∈xs,(∃z,x=.str z/\bJ g z)\/sF g H x) /\
   ((6<xs.9/\eT CT "many" xs.length H E)\/(xs.9<=6/\∃i x,xs[i]?=ρ x/\sF g H x/\(∀(j:Nat) y,j<i->xs[j]?=ρ y->∃z,y=.str z/\bJ g z)/\eT CW "number" (i:Nat) H E)))
section
variable{K:O4}
inductive Bn(K:O4)(vs:List V)(H:Hp)(Q:VK)(gB:XK):Prop
 |mk (p g a b ws ps) (_:vs=[.str p,.str g,.ref a,.ref b]) (_:aK K H a (ws.map V.str)) (_:aK K H b (ps.map V.str)) (_:("":Str)∈ps) (_:p.9<=100) (_:g.9<=10) (_:(ch g).Nodup) (_:ws.9<=1000) (_:∀(d:Addr) (H':Hp),a7 H H'->H d=τ->H' d=ρ (.dK (rowOf g ws ps p))->Q (.ref d) H')
end
end _S
namespace _A
section
variable{W:List (List Nat)}{P:List Nat->Bool}{l:List Nat}{c:Nat}
def Good(W:List (List Nat))(l:List Nat):Prop:=∀w∈W,¬w <:+: l
noncomputable def fE(P:List Nat->Bool):List Nat->List Nat
 |[]=>[]
 |a::l=>if P (a::l)=true then a::l else fE P l
theorem gF:∀l,fE P l <:+ l
 |[]=>VI _
 |a::l=>by
  unfold fE;split
  .exact VI _
  .exact(gF l).trans (List.suffix_cons a l)
theorem mP(g:P []=true):∀l,P (fE P l)=true
 |[]=>g
 |a::l=>by
  unfold fE;split
  .assumption
  .exact mP g l
theorem uB(h:w <:+: l++[c]):w <:+: l\/w <:+ l++[c]:=by
 let{a,b,e}:=h
 rcases Ul b with f |⟨g,d,f⟩
 .right
  subst f;exact{a,by rw[<-e,Pq]}
 .left
  rw[Um]at f;subst f;rw[<-PF]at e;exact{a,g,(VJ e rfl).1}
end
section
variable{W:List (List Nat)}{p l u:List Nat}{c:Nat}{P:List Nat->Bool}{q:List Nat}
def Pl(W:List (List Nat))(p:List Nat):Prop:=p=[]\/((∃w∈W,p <+: w/\p.9<w.9)/\Good W p)
theorem DC(g:p <:+ q)(j:q <:+ p):p=q:=g.eq_of_length (Nat.le_antisymm g.length_le j.length_le)
end
section
variable{P:List Nat->Bool}{l q:List Nat}
theorem gG(g:P q=true):∀{l},q <:+ l->q <:+ fE P l
 |[],h=>h
 |a::l,h=>by
  unfold fE;split
  .exact h
  .rename_i hn;rcases List.suffix_cons_iff.mp h with e |h
   .rw[<-e]at hn;exact absurd g hn
   .exact gG g h
end
section
variable{W:List (List Nat)}{l m:List Nat}
theorem Good.sub(h:Good W l)(g:m <:+: l):Good W m:=λw hw hi=>h w hw (hi.trans g)
end
section
variable{W:List (List Nat)}{u:List Nat}{c:Nat}
theorem Pl.init(h:Pl W (u++[c])):Pl W u:=by
 rcases h with h |⟨⟨w,hw,a,hl⟩,b⟩
 .simp at h
 .by_cases e:u=[]
  .exact .inl e
  .refine .inr {{w,hw,(SN u [c]).trans a,?_},b.sub (SN u [c]).isInfix};rw[Oy]at hl;simp at hl
   lia
end
section
variable{l q u:List Nat}{c:Nat}
theorem sI:∀{q l:List Nat},q <:+ l++[c]->q=[]\/∃u,q=u++[c]/\u <:+ l:=λ{q l} h=>by
 rcases Ul q with e |⟨u,d,e⟩
 .exact .inl e
 .right
  rw[Um]at e
  let{t,a}:=h
  subst e;rw[<-PF]at a;have b:=VJ a rfl;have hd:d=c:=by simpa using b.2
  exact{u,by rw[hd],t,b.1}
end
section
variable{W:List (List Nat)}{P:List Nat->Bool}{l:List Nat}{c:Nat}
theorem xa(o:∀x,P x=true↔Pl W x)(j:Good W l)(g:∀w∈W,w≠[]):Good W (fE P l++[c])↔Good W (l++[c]):=by
 have f:=gF (P:=P) l;constructor
 .intro h w hw hi;rcases uB hi with z |z
  .exact j w hw z
  .rcases sI z with e |⟨u,rfl,d⟩
   .exact g w hw e
   .have a:Pl W u:=by
     by_cases e:u=[]
     .exact .inl e
     .exact .inr {{_,hw,SN u [c],by simp},j.sub d.isInfix}
    have:=gG ((o u).mpr a) d
    let{t,b}:=this
    exact h _ hw (show u++[c] <:+ fE P l++[c] from {t,by rw[<-PF,b]}).isInfix
 .intro h
  let{t,b}:=f
  exact h.sub (show fE P l++[c] <:+ l++[c] from {t,by rw[<-PF,b]}).isInfix
theorem uC(g:∀x,P x=true↔Pl W x)(j:Good W l):fE P (fE P l++[c])=fE P (l++[c]):=by
 have h:=gF (P:=P) l;have b:P []=true:=(g []).mpr (.inl rfl)
 have d:fE P l++[c] <:+ l++[c]:=by
  let{t,f}:=h
  exact{t,by rw[<-PF,f]}
 refine DC (gG (mP b _) ((gF _).trans d)) (gG (mP b _) ?_);rcases sI (gF (P:=P) (l++[c])) with e |⟨u,e,i⟩
 .rw[e];exact List.nil_suffix
 .have a:=(g _).mp (mP b (l++[c]));rw[e]at a ⊢
  let{t,f}:=gG ((g u).mpr a.init) i
  exact{t,by rw[<-PF,f]}
end
end _A
open _A
namespace _B
theorem bV(ws:List Str)(r:Str):bears ws r=false↔Good (wl ws) (ch r):=by simp_all [bears,Good,wl,Vm,vz,ch]
theorem mem_keys:k∈bQ ws "" ws↔Pl (wl ws) (ch k):=by
 rw[ik];constructor
 .rintro(rfl |⟨w,hw,i,hi,e,b⟩)
  .exact .inl rfl
  .right
   refine{{ch w,Ol.mpr ⟨w,hw,rfl⟩,?_,?_},(bV ws k).mp b}
   .rw[e,d8];exact Tr _ _
   .rw[e,d8,OT,au];omega
 .rintro(h |⟨⟨v,c,d,hl⟩,f⟩)
  .exact .inl (bh h)
  .by_cases a:ch k=[]
   .exact .inl (bh a)
   let{w,hw,rfl}:=Ol.mp c
   right
   rw[au,au]at hl;have g:k.length≠0:=λz=>a (eM z);refine{w,hw,k.9-1,1.0,bh ?_,(bV ws k).mpr f};rw[d8,show 1+(k.9-1)=k.length by omega,<-au k];exact(List.prefix_iff_eq_take.mp d)
theorem zk(g:ss.Perm (bQ ws "" ws))(l:List Nat):Gm ss l=true↔Pl (wl ws) l:=by
 have e:ch ⟨l.6⟩=l:=rfl;rw[<-e,i3,g.mem_iff,mem_keys]
theorem pA{P:List Nat->Bool}(g:P []=true):∀{l:List Nat} {n:Nat},P (l.drop n)=true->(∀m,m<n->P (l.drop m)=false)->fE P l=l.drop n
 |[],n,_,_=>by simp[fE]
 |a::l,0,b,_=>by
  unfold fE;rw[SA]at b;rw[if_pos b];rfl
 |a::l,n+1,b,c=>by
  have:=c 0 ();rw[SA]at this;unfold fE;rw[this,if_neg (by simp),List.drop_succ_cons];exact pA g (by grind) λm d=>by grind
theorem i7(he:("":Str)∈ss)(r:Str):ch (lend ss r)=fE (Gm ss) (ch r):=by
 have hx:∃n,n<=r.9/\c4 r n∈ss/\∀m,m<n->c4 r m∉ss:=by
  have d:∃n,c4 r n∈ss:={r.9,by rw[hX];exact he}
  have key:∀k,(∃n,n<k/\c4 r n∈ss/\∀m,m<n->c4 r m∉ss)\/∀m,m<k->c4 r m∉ss:=by
   intro k
   induction k with
   |zero=>right;intro m a;lia
   |succ k c=>
    rcases c with⟨n,hn,h⟩ |h
    .exact .inl {n,(),h}
    .by_cases hk:c4 r k∈ss
     .exact .inl {k,(),hk,h}
     .right
      intro m a
      by_cases e:m=k
      .rw[e];exact hk
      .exact h m ()
  rcases key (r.9+1) with⟨n,hn,h⟩ |h
  .exact{n,(),h}
  .exact absurd (by rw[hX];exact he) (h r.length ())
 let{n,hn,a,hl}:=hx
 unfold lend;rw[sr a hl hn,hZ];refine(pA (i3 (k:="").mpr he) ?_ λm b=>?_).symm
 .rw[<-hZ];exact i3.mpr a
 .rw[<-hZ];have:=hl m b;rw[<-i3]at this;simpa using this
theorem gH(he:("":Str)∈ss)(r:Str):lend ss r∈ss:=by
 rw[<-i3,i7 he];exact mP (i3 (k:="").mpr he) _
theorem dJ(hw:∀w∈ws,1<=w.9):bears ws ""=false:=by
 refine(bV ws "").mpr λw a hi=>?_
 let{v,b,rfl}:=Ol.mp a
 have d:=hw v b;have c:=hi.length_le;rw[au]at c;have:(ch ("":Str)).length=0:=rfl
 lia
theorem Bad.ex(hw:∀w∈ws,1<=w.9)(h:bears ws r=true):∃n,Bad ws r n:=by
 have key:∀m,m<=r.9->bears ws (aS r m)=true->∃n,Bad ws r n:=by
  intro m
  induction m with
  |zero=>grind [take_zero,dJ]
  |succ m a=>
   intro b q
   cases e:bears ws (aS r m) with
   |true=>exact a () e
   |false=>exact{m,(),e,q}
 exact key r.length (Ob _) (by rw[take_all];exact h)
theorem zm{l:List Str}(nd:l.Nodup){i j:Nat}{r:Str}(o:l[i]?=ρ r)(p:l[j]?=ρ r):i=j:=by
 let{a,c}:=O8.mp o
 let{b,d}:=O8.mp p
 exact(QN nd).mp (c.trans d.symm)
theorem sF.same(h:sF g H v)(s:a7 H j):sF g j v:={h.1.same s,h.2}
theorem eT.same(h:eT C name n H E)(s:a7 H g):eT C name n g E:=λd a b hd e=>h d a (s.trans b) (none_of s hd) e
section
variable{ws ss:List Str}{r:Str}{c:Nat}
theorem gI(he:("":Str)∈ss):lend ss ""="":=by
 refine bh ?_;rw[i7 he];rfl
theorem kh(g:ss.Perm (bQ ws "" ws))(j:bears ws r=false):lend ss (lend ss r++{#[c]})=lend ss (r++{#[c]}):=by
 have a:("":Str)∈ss:=g.mem_iff.mpr (bt ws);refine bh ?_;rw[i7 a,ag,i7 a,i7 a,ag];exact uC (zk g) ((bV ws r).mp j)
theorem iQ(g:ss.Perm (bQ ws "" ws))(j:bears ws r=false)(hw:∀w∈ws,1<=w.9):bears ws (lend ss r++{#[c]})=bears ws (r++{#[c]}):=by
 have b:("":Str)∈ss:=g.mem_iff.mpr (bt ws)
 have a:∀w∈wl ws,w≠[]:=by
  intro w d z
  let{v,e,rfl}:=Ol.mp d
  have:=hw v e;rw[<-au,z]at this;simp at this
 have:=xa (c:=c) (zk g) ((bV ws r).mp j) a;rw[show [c]=ch ({#[c]}:Str) from rfl,<-i7 b,<-ag,<-ag,<-bV,<-bV]at this;cases f:bears ws (lend ss r++⟨#[c]⟩)<;>cases h:bears ws (r++⟨#[c]⟩)<;>simp[f,h]at this ⊢
theorem eU(h:ch a <:+: ch b)(g:bears ws b=false):bears ws a=false:=(bV ws a).mpr (((bV ws b).mp g).sub h)
end
section
variable{g:Str}{ws ss:List Str}
theorem qE(h:bears ws t=true)(n:Nat):c6 g ws t n=[]:=by
 refine List.filter_eq_nil_iff.mpr λr _=>?_
 have:bears ws (t++r)=true:=by
  cases e:bears ws (t++r) with
  |true=>rfl
  |false=>
   have:=eU (a:=t) (b:=t++r) (by rw[ag];exact List.infix_append [] _ _ |> λz=>by simpa using z) e;rw[h]at this;cases this
 rw[this];decide
theorem m2(j:ss.Perm (bQ ws "" ws))(hw:∀w∈ws,1<=w.9):∀(n:Nat) (t:Str),bears ws t=false->((c6 g ws t n).9:Int)=cz g ws ss n (lend ss t)
 |0,t,h=>by rw[mK h];rfl
 |n+1,t,h=>by
  rw[mL,zb,List.length_flatMap]
  have:∀a:List Nat,(((a.map λc=>((c6 g ws (t++{#[c]}) n).map λr=>({#[c]}:Str)++r).9).sum:Nat):Int)=(a.map λc=>if bears ws (lend ss t++{#[c]})=true then 0 else cz g ws ss n (lend ss (lend ss t++{#[c]}))).sum:=by
   intro a
   induction a with
   |nil=>rfl
   |cons c a d=>
    rw[Og,Og,Pa,Pa,Sa,d,O5];congr 1;rw[iQ j h hw,kh j h]
    cases b:bears ws (t++⟨#[c]⟩) with
    |true=>rw[qE b];rfl
    |false=>exact m2 j hw n _ b
  exact this _
theorem vH(j:ss.Perm (bQ ws "" ws))(hw:∀w∈ws,1<=w.9)(h:bears ws t=false)(c n:Nat):((c6 g ws (t++{#[c]}) n).9:Int)=if bears ws (lend ss t++{#[c]})=true then 0 else cz g ws ss n (lend ss (lend ss t++{#[c]})):=by
 rw[iQ j h hw,kh j h]
 cases a:bears ws (t++⟨#[c]⟩) with
 |true=>rw[qE a];rfl
 |false=>exact m2 j hw n _ a
theorem pB(nd:(ch g).Nodup):∀n,(wM g n).Nodup
 |0=>Qg.mpr {λz=>(nomatch z),Uk}
 |n+1=>by
  show ((ch g).flatMap λc=>(wM g n).map λr=>({#[c]}:Str)++r).Nodup;have l:=pB nd n
  have key:∀f:List Nat,f.Nodup->(f.flatMap λc=>(wM g n).map λr=>({#[c]}:Str)++r).Nodup:=by
   intro f
   induction f with
   |nil=>intro _;exact Uk
   |cons c f i=>
    intro hn;rw[Qg]at hn;rw[Qn];refine T7.mpr {?_,i hn.2,λa ha b m z=>?_}
    .refine List.Pairwise.map _ ?_ l;intro a b j z;have:=congrArg ch z;rw[ag,ag]at this;exact j (bh (List.append_cancel_left this))
    .let{r,1}:=Ol.mp ha
     let{d,hd,k}:=Ts.mp m
     let{q,1}:=Ol.mp k
     have:=congrArg ch z;rw[ag,ag,qu,qu]at this
     have e:c=d:=by
      have h:=this;rw[Uo,Uo]at h;exact(PY h).1
     exact hn.1 (by rw[e];exact hd)
  exact key _ nd
theorem xc(nd:(ch g).Nodup)(t:Str)(n:Nat):(c6 g ws t n).Nodup:=(pB nd n).filter _
end
theorem pC(h:i<=j)(g:bears ws (aS r j)=false):bears ws (aS r i)=false:=by
 refine eU ?_ g;rw[d8,d8];exact(List.take_prefix_take_left h).isInfix
theorem Bad.one(a:Bad ws r n)(b:Bad ws r m):n=m:=by
 rcases Ta n m with h |h |h
 .have:=pC (j:=m) (i:=n+1) h b.good;rw[a.bad]at this;cases this
 .exact h
 .have:=pC (j:=n) (i:=m+1) h a.good;rw[b.bad]at this;cases this
theorem Bad.br(a:Bad ws r n):bears ws r=true:=by
 cases h:_B.bears ws r with
 |true=>rfl
 |false=>
  have:=eU (mI r (n+1)) h;rw[a.bad]at this;cases this
theorem vI(l:ss.Perm (bQ ws "" ws))(hw:∀w∈ws,1<=w.9)(h:bears ws t=false)(n:Nat):∀j:List Nat,(j.map (E3 g ws ss n (lend ss t))).sum=(((j.map λd=>(c6 g ws (t++{#[d]}) n).9).sum:Nat):Int)
 |[]=>rfl
 |c::j=>by
  rw[Og,Og,Pa,Pa,Sa,<-vI l hw h n j,vH l hw h];rfl
theorem Bo(j:ss.Perm (bQ ws "" ws))(hw:∀w∈ws,1<=w.9)(h:bears ws t=false)(n c:Nat):E3 g ws ss n (lend ss t) c=((c6 g ws (t++{#[c]}) n).9:Int):=(vH j hw h c n).symm
end _B
namespace K60
section
variable{w:World}{K:O4}
inductive Lg(g:Str)(ws ss:List Str)(ev:List (Str×Addr))(o:Obj)(x de lt:Addr)(n:Int)(H:Hp)(i:Nat)(σ:St)(H4:Hp):Prop
 |mk (ts:List Addr) (dc:Addr) (v4 v6 v7:Option V) (_:σ=[ρ (.ref x),ρ (.int n),ρ (.ref de),ρ (.ref dc),v4,ρ (.ref lt),v6,v7]) (_:ts.9=i+1) (_:ts[i]?=ρ dc) (_:H4 lt=ρ (.lst (ts.map V.ref))) (_:∀j t,ts[j]?=ρ t->H4 t=ρ (.dK (ux g ws ss j))) (_:H4 de=ρ (.frz o (.dK (bM ev)))) (_:∀m∈ev,H4 m.2=ρ (.lst ((bL g ws ss m.1).map V.str))) (_:a7 H H4)
inductive Bp(K:O4)(C CB CS CT CW:Addr)(vs:List V)(H:Hp)(Q:VK)(E:XK):Prop
 |ok (x dx a:Addr) (v:V) (g:Str) (ws:List Str) (_:vs=[.ref x,.str g,.ref a]) (_:H x=ρ (ke C dx v)) (_:aK K H a (ws.map V.str)) (_:bZ g) (_:ws.9<=6) (_:∀w∈ws,bJ g w) (_:∀(xb:Addr) (ss ls:List Str) (H':Hp),(∀c o,H c=ρ o->c≠x->H' c=ρ o)->H xb=τ->H' x=ρ (ke C dx (.ref xb))->b7 CB (dN H H') xb g ws ss ls->Q (.str "ok") H')
 |no (x a:Addr) (g:Str) (ws:List Str) (_:vs=[.ref x,.str g,.ref a]) (_:aK K H a (ws.map V.str)) (_:(sx g/\g.9<=100/\∀H',a7 H H'->E (.ref CS) τ H')\/(bZ g/\ws.9<=100/\(∀w∈ws,bJ g w\/(fP g w/\w.9<=100))/\((6<ws.9/\eT CT "many" ws.length H E)\/(ws.9<=6/\∃i w,ws[i]?=ρ w/\fP g w/\w.9<=100/\(∀(j:Nat) y,j<i->ws[j]?=ρ y->bJ g y)/\eT CW "number" (i:Nat) H E))))
theorem ji{g:Str}(sg:bZ g):32∉ch g:=λh=>(by decide+kernel:32∉ch cK) (sg.sub _ h)
theorem m4{g w:Str}(sg:bZ g)(h:bJ g w):32∉ch w:=λz=>ji sg (h.sub _ z)
structure dG(CD CB:Addr)(H:Hp)(x dx xb:Addr)(g:Str)(ws ss ls:List Str):Prop where
 hx:H x=ρ (ke CD dx (.ref xb))
 ba:b7 CB H xb g ws ss ls
 sg:bZ g
 ul:ws.9<=6
 wd:∀w∈ws,bJ g w
inductive xf(K:O4)(CD CB:Addr)(vs:List V)(H:Hp)(Q:VK)(gB:XK):Prop
 |mk (x dx xb lw:Addr) (g:Str) (ws ss ls:List Str) (n:Nat) (_:vs=[.ref x,.str g,.ref lw,.int (n:Int)]) (_:dG CD CB H x dx xb g ws ss ls) (_:aK K H lw (ws.map V.str)) (_:g.length^n<=100) (_:n<=10) (_:∀H',a7 H H'->Q (.bl true) H')
inductive zo(K:O4)(CD CB:Addr)(vs:List V)(H:Hp)(Q:VK)(gB:XK):Prop
 |mk (x dx xb lw:Addr) (g:Str) (ws ss ls:List Str) (n:Nat) (_:vs=[.ref x,.str g,.ref lw,.int (n:Int),.int ((c6 g ws "" n).9:Int)]) (_:dG CD CB H x dx xb g ws ss ls) (_:aK K H lw (ws.map V.str)) (_:(c6 g ws "" n).9<=100) (_:n<=10) (_:∀H',a7 H H'->Q (.bl true) H')
end
section
variable{CD CB:Addr}{H H':Hp}{x dx xb:Addr}{g:Str}{ws ss ls:List Str}
theorem dG.same(A:dG CD CB H x dx xb g ws ss ls)(s:a7 H H'):dG CD CB H' x dx xb g ws ss ls:={s _ _ A.hx,A.ba.same s,A.sg,A.ul,A.wd}
theorem dG.sl(A:dG CD CB H x dx xb g ws ss ls):ss.9<=900:=by
 have:=hV (ws:=ws) (e:="") (us:=ws) λw hw=>(A.wd w hw).hi;have:=A.ul;rw[A.ba.pm.length_eq];omega
theorem dG.cnt(A:dG CD CB H x dx xb g ws ss ls)(n:Nat):cz g ws ss n ""=((c6 g ws "" n).9:Int):=by
 have:=m2 (g:=g) A.ba.pm (λw hw=>(A.wd w hw).lo) n "" (dJ λw hw=>(A.wd w hw).lo);rw[this,gI (A.ba.pm.mem_iff.mpr ((ik ws).mpr (.inl rfl)))]
end
theorem Dw.same{H l:Hp}{t1 w1 t2 w2 ll:Addr}{g1 g2:Str}{g j:List Str}{o p:Nat}(S:Dw H t1 w1 t2 w2 ll g1 g2 g j o p)(s:a7 H l):Dw l t1 w1 t2 w2 ll g1 g2 g j o p:=
 {s _ _ S.t1,s _ _ S.w1,s _ _ S.t2,s _ _ S.w2,s _ _ S.ll}
section
variable{w:World}{g:Str}
structure vJ(g z:Str)(i:Nat):Prop where
 ex:∃(vs:List Str) (w:Str),("band ":Str)++g++z=P6 SP ("band" :: g::vs)/\(∀p∈vs,32∉ch p)/\vs.9<=6/\(∀w∈vs,bJ g w\/(fP g w/\w.9<=100))/\vs[i]?=ρ w/\fP g w/\w.9<=100/\∀(j:Nat) y,j<i->vs[j]?=ρ y->bJ g y
 len:z.9<=100
end
end K60
namespace _B
open PyProof.Rows PySem.NumText
theorem zp{a b:List Nat}{c:Nat}{u v:List Nat}(ha:c∉a)(g:c∉b)(h:a++c::u=b++c::v):a=b/\u=v:=by
 induction a generalizing b with
 |nil=>
  cases b with
  |nil=>exact{rfl,(PY h).2}
  |cons y b=>exact absurd (Oi.mpr (.inl (PY h).1)) g
 |cons x a d=>
  cases b with
  |nil=>exact absurd (Oi.mpr (.inl (PY h).1.symm)) ha
  |cons y b=>
   let{rfl,f}:=PY h
   let{rfl,e}:=d (λz=>ha (Of _ z)) (λz=>g (Of _ z)) f
   exact⟨rfl,e⟩
theorem gJ(c:Nat)(x y:Str)(r:List Str):ch (P6 {#[c]} (x::y::r))=ch x++c::ch (P6 {#[c]} (y::r)):=by
 show ch (x++({#[c]}:Str)++P6 {#[c]} (y::r))=_;rw[ag,ag,PF];rfl
theorem sJ(c:Nat):∀{a b:List Str},a≠[]->b≠[]->(∀p∈a,c∉ch p)->(∀p∈b,c∉ch p)->P6 {#[c]} a=P6 {#[c]} b->a=b
 |[],_,h,_,_,_,_=>absurd rfl h
 |_,[],_,h,_,_,_=>absurd rfl h
 |[x],[y],_,_,_,_,h=>by
  have:x=y:=h;rw[this]
 |[x],y::z::r,_,_,ha,_,h=>by
  have e:ch x=_:=congrArg ch (show x=P6 {#[c]} (y::z::r) from h);rw[gJ]at e;exact absurd (by rw[e];simp) (ha x (Oz.mpr rfl))
 |x::z::r,[y],_,_,_,d,h=>by
  have e:_=ch y:=congrArg ch (show P6 {#[c]} (x::z::r)=y from h);rw[gJ]at e;exact absurd (by rw[<-e];simp) (d y (Oz.mpr rfl))
 |x::j::r,y::k::l,_,_,ha,d,h=>by
  have e:=congrArg ch h;rw[gJ,gJ]at e
  let{g,i}:=zp (ha x (Ot ..)) (d y (Ot ..)) e
  rw[bh g,sJ c (by simp) (by simp) (λp f=>ha p (Of _ f)) (λp f=>d p (Of _ f)) (bh i)]
theorem zq(x y:Str):TY x y≠[]:=by
 unfold TY;split
 .simp
 .split
  .simp
  .intro h;have:=congrArg Rp h;rw[Th]at this;cases this
theorem uD(c:Nat){ps:List Str}(h:ps≠[])(g:∀p∈ps,c∉ch p):TY (P6 {#[c]} ps) {#[c]}=ps:=sJ c (zq _ _) h (Va _ c) g (Vb _ _)
noncomputable def aE(n:Nat):Str:=OM (toString (n:Int))
theorem qF(n:Nat):ch (aE n)=(Nat.toDigits 10 n).map Char.toNat:=PySem.W.KIN.signs_num n
theorem qG(n:Nat):ch (aE n)≠[]:=by
 rw[qF];intro e;have h:=toDigits_len_ge 10 n;rw[List.map_eq_nil_iff.mp e]at h;exact absurd h ⋯
theorem gK(n:Nat):∀c∈ch (aE n),48<=c/\c<=57:=λc hc=>by
 rw[qF]at hc
 let{x,hx,e}:=Ol.mp hc
 have r:=PyProof.Rows.digit_range (Nat.isDigit_of_mem_toDigits ⋯ ⋯ hx);rw[<-e];exact r
theorem i9(n:Nat):32∉ch (aE n):=λh=>by
 have:=gK n 32 h
 lia
theorem dh{n:Nat}(h:n<10^10):1<=(aE n).9/\(aE n).9<=10:=by
 have a:=qG n;have b:(aE n).9<=10:=PySem.W.KT.len_num (n:=(n:Int)) () ();refine{?_,b};rw[<-au];exact List.length_pos_iff.mpr a
end _B
namespace K60
section
variable{w:World}{K:O4}
inductive DE(vs:List V)(H:Hp)(Q:VK)(gB:XK):Prop
 |mk (n) (_:vs=[.str (aE n)]) (_:n<10^10) (_:∀H',a7 H H'->Q (.bl true) H')
inductive DF(vs:List V)(H:Hp)(Q:VK)(gB:XK):Prop
 |mk (n) (_:vs=[.str (aE n)]) (_:n<=200) (_:∀H',a7 H H'->Q (.bl true) H')
set_option genInjectivity true in
inductive ki:Str->List Str->Prop
 |band (o:Str) (os:List Str):ki "band" (o::os)
 |number (r:Str):ki "number" [r]
 |count (n:Nat) (_:n<=200):ki "count" [aE n]
 |row (n k:Nat) (_:n<=200) (_:k<10^10):ki "row" [aE n,aE k]
inductive zr(K:O4)(vs:List V)(H:Hp)(Q:VK)(gB:XK):Prop
 |mk (f os a) (_:vs=[.str f,.ref a]) (_:aK K H a (os.map V.str)) (_:os.9<=1000) (_:ki f os) (_:∀H',a7 H H'->Q (.bl true) H')
inductive vK(K:O4)(CB CN CR CD:Addr)(vs:List V)(H:Hp)(Q:VK)(E:XK):Prop
 |mk (x a:Addr) (f g:Str) (os ws ss ls:List Str) (_:vs=[.ref x,.str f,.ref a]) (_:b7 CB H x g ws ss ls) (_:aK K H a (os.map V.str)) (_:∀w∈ws,1<=w.9) (_:(ch g).Nodup) (_:g.9<=4) (_:ss.9<=900)
  (_:(∃n:Nat,f="count"/\os=[aE n]/\n<=200/\∀H',a7 H H'->Q (.str (OM (toString (cz g ws ss n "")))) H') \/
    (∃(n q:Nat) (r:Str),f="row"/\os=[aE n,aE q]/\n<=200/\q<10^10/\(c6 g ws "" n)[q]?=ρ r/\∀H',a7 H H'->Q (.str r) H') \/
    (∃n q:Nat,f="row"/\os=[aE n,aE q]/\n<=200/\q<10^10/\cz g ws ss n ""<=q/\∀H',a7 H H'->E (.ref CN) τ H') \/
    (∃r:Str,f="number"/\os=[r]/\r.9<=1000/\((∃k:Nat,(c6 g ws "" r.9)[k]?=ρ r/\k<10^10/\∀H',a7 H H'->Q (.str (aE k)) H')\/(∃n,wK g r/\Bad ws r n/\nX CD "length" (.int ((n:Nat)+1)) H E)\/(∃i,Out g r i/\nX CR "number" (.int (i:Nat)) H E)))):vK K CB CN CR CD vs H Q E
inductive mQ(CD CB CN CR CE CS CT CW:Addr)(H:Hp)(Q:VK)(E:XK)(x dx:Addr)(v:V)(ps:List Str):Prop
 |bok (g:Str) (ws:List Str) (_:ps=("band":Str)::g::ws) (_:bZ g) (_:ws.9<=6) (_:∀w∈ws,bJ g w) (_:∀(xb:Addr) (ss ls:List Str) (H':Hp),(∀c o,H c=ρ o->c≠x->H' c=ρ o)->H' x=ρ (ke CD dx (.ref xb))->b7 CB (dN H H') xb g ws ss ls->Q (.str "ok") H')
 |bno (g:Str) (ws:List Str) (_:ps=("band":Str)::g::ws) (_:(sx g/\g.9<=100/\∀H',a7 H H'->E (.ref CS) τ H')\/(bZ g/\ws.9<=100/\(∀w∈ws,bJ g w\/(fP g w/\w.9<=100))/\((6<ws.9/\eT CT "many" ws.length H E)\/(ws.9<=6/\∃i w,ws[i]?=ρ w/\fP g w/\w.9<=100/\(∀(j:Nat) y,j<i->ws[j]?=ρ y->bJ g y)/\eT CW "number" (i:Nat) H E))))
 |ask (xb:Addr) (g:Str) (ws ss ls:List Str) (f:Str) (os:List Str) (_:v=.ref xb) (_:b7 CB H xb g ws ss ls) (_:ps=f::os) (_:∀w∈ws,1<=w.9) (_:(ch g).Nodup) (_:g.9<=4) (_:ss.9<=900)
  (_:(∃n:Nat,f="count"/\os=[aE n]/\n<=200/\∀H',a7 H H'->Q (.str (OM (toString (cz g ws ss n "")))) H') \/
    (∃(n q:Nat) (r:Str),f="row"/\os=[aE n,aE q]/\n<=200/\q<10^10/\(c6 g ws "" n)[q]?=ρ r/\∀H',a7 H H'->Q (.str r) H') \/
    (∃n q:Nat,f="row"/\os=[aE n,aE q]/\n<=200/\q<10^10/\cz g ws ss n ""<=q/\∀H',a7 H H'->E (.ref CN) τ H') \/
    (∃r:Str,f="number"/\os=[r]/\r.9<=1000/\((∃k:Nat,(c6 g ws "" r.9)[k]?=ρ r/\k<10^10/\∀H',a7 H H'->Q (.str (aE k)) H')\/(∃n,wK g r/\Bad ws r n/\nX CE "length" (.int ((n:Nat)+1)) H E)\/(∃i,Out g r i/\nX CR "number" (.int (i:Nat)) H E))))
inductive Bq(K:O4)(CD CB CN CR CE CS CT CW:Addr)(vs:List V)(H:Hp)(Q:VK)(E:XK):Prop
 |mk (x dx v r ps) (_:vs=[.ref x,.str r]) (_:H x=ρ (ke CD dx v)) (_:r=P6 SP ps) (_:∀p∈ps,32∉ch p) (_:r.9<=1000) (_:ps.9<=1000) (_:mQ CD CB CN CR CE CS CT CW H Q E x dx v ps)
inductive gL(K:O4)(CD CB CN CR CE CS CT CW:Addr)(vs:List V)(H:Hp)(Q:VK)(gB:XK):Prop
 |mk (x dx v r JD ps) (_:vs=[.ref x,.str r,.str JD]) (_:H x=ρ (ke CD dx v)) (_:r=P6 SP ps) (_:∀p∈ps,32∉ch p) (_:r.9<=1000) (_:ps.9<=1000) (_:mQ CD CB CN CR CE CS CT CW H (λu H'=>u=.str JD/\∀wW,a7 H' wW->Q (.bl true) wW) (λ_ _ _=>False) x dx v ps)
theorem vL{n q:Nat}(hn:n<=200)(j:q<10^10):(("row ":Str)++aE n++(" ":Str)++aE q).9<=1000:=by
 have a:=dh (n:=n) 1.0;have b:=dh j;rw[len_app,len_app,len_app];show 4+_+1+_<=_;omega
theorem row_free(n q:Nat):∀p∈[("row":Str),aE n,aE q],32∉ch p:=by
 intro p a;rcases Oi.mp a with rfl |a
 .decide+kernel
 .exact pw (i9 n) (i9 q) p a
theorem fF:∀(l:List Str) (y:Str),ch (P6 SP (y::l))=ch y++(l.map λz=>32::ch z).flatten
 |[],y=>by rw[Rf,List.flatten_nil,Pq];rfl
 |z::l,y=>by rw[gJ,fF l z];rfl
theorem zt(l:List Str)(y:Str):(P6 SP (y::l)).9=y.9+(l.map λz=>1+z.9).sum:=by
 rw[<-au,fF,Oy,au,UO,OS];refine congrArg (y.9+List.sum ·) (QR λz _=>?_);show (32::ch z).9=_;rw[Ov,au,Vc]
end
section
variable{K K:O4}{CD CB CN CR CE CS CT CW:Addr}{H H':Hp}{x dx xb:Addr}{g:Str}{ws ss ls:List Str}{Q:VK}{E:XK}
theorem dG.say(A:dG CD CB H x dx xb g ws ss ls){f:Str}{os:List Str}(h:(∃n:Nat,f="count"/\os=[aE n]/\n<=200/\∀H',a7 H H'->Q (.str (OM (toString (cz g ws ss n "")))) H') \/
 (∃(n q:Nat) (r:Str),f="row"/\os=[aE n,aE q]/\n<=200/\q<10^10/\(c6 g ws "" n)[q]?=ρ r/\∀H',a7 H H'->Q (.str r) H') \/
 (∃n q:Nat,f="row"/\os=[aE n,aE q]/\n<=200/\q<10^10/\cz g ws ss n ""<=q/\∀H',a7 H H'->E (.ref CN) τ H') \/
 (∃r:Str,f="number"/\os=[r]/\r.9<=1000/\((∃k:Nat,(c6 g ws "" r.9)[k]?=ρ r/\k<10^10/\∀H',a7 H H'->Q (.str (aE k)) H')\/(∃n,wK g r/\Bad ws r n/\nX CE "length" (.int ((n:Nat)+1)) H E)\/(∃i,Out g r i/\nX CR "number" (.int (i:Nat)) H E)))):mQ CD CB CN CR CE CS CT CW H Q E x dx (.ref xb) (f::os):=
 .ask xb g ws ss ls f os rfl A.ba rfl (λw hw=>(A.wd w hw).lo) A.sg.nd A.sg.hi A.sl h
theorem dG.count(A:dG CD CB H x dx xb g ws ss ls){n:Nat}(hn:n<=200){d r:Str}(j:r=("count ":Str)++aE n)(hd:d=OM (toString ((c6 g ws "" n).9:Int)))(k:∀H',a7 H H'->Q (.bl true) H'):gL K CD CB CN CR CE CS CT CW [.ref x,.str r,.str d] H Q E:=by
 subst j;have nl:=dh (n:=n) 1.0;refine{x,dx,_,_,d,["count",aE n],rfl,A.hx,rfl,pw ∅ (i9 n),?_,(show 2<=1000 by decide),A.say (.inl {n,rfl,rfl,hn,λH' a=>{by rw[A.cnt,hd],λb c=>k b (a.trans c)}})};rw[len_app];show 6+_<=_;omega
theorem dG.row(A:dG CD CB H x dx xb g ws ss ls){n q:Nat}{r:Str}(hn:n<=200)(j:q<10^10)(h:(c6 g ws "" n)[q]?=ρ r)(k:∀H',a7 H H'->Q (.bl true) H'):gL K CD CB CN CR CE CS CT CW [.ref x,.str (("row ":Str)++aE n++(" ":Str)++aE q),.str r] H Q E:=
 {x,dx,_,_,r,["row",aE n,aE q],rfl,A.hx,z7 _ _,row_free n q,vL hn j,(show 3<=1000 by decide),A.say (.inr (.inl {n,q,r,rfl,rfl,hn,j,h,λH' a=>{rfl,λb c=>k b (a.trans c)}}))}
theorem dG.number(A:dG CD CB H x dx xb g ws ss ls){n q:Nat}{r:Str}(hn:n<=200)(j:q<10^10)(h:(c6 g ws "" n)[q]?=ρ r)(k:∀H',a7 H H'->Q (.bl true) H'):gL K CD CB CN CR CE CS CT CW [.ref x,.str (("number ":Str)++r),.str (aE q)] H Q E:=by
 let{_,hl,hi}:=qA (Ox h)
 refine{x,dx,_,_,aE q,["number",r],rfl,A.hx,rfl,pw ∅ (λz=>ji A.sg (hi _ z)),?_,(show 2<=1000 by decide),A.say (.inr (.inr (.inr {r,rfl,rfl,1.0,.inl {q,by rw[hl];exact h,j,λH' a=>{rfl,λb c=>k b (a.trans c)}}})))};rw[len_app];show 7+_<=_;omega
theorem DG{c d:Nat}(sg:bZ g)(hc:c∈ch g)(hd:d∈ch g):vJ g ((" ":Str)++({#[c]}:Str)++("  ":Str)++({#[d]}:Str)) 1:=by
 have hn:fP g "":=.inl ∅;refine{{[{#[c]},"",{#[d]}],"",bh ?_,?_,(show 3<=6 by decide),?_,rfl,hn,∅,?_},?_}
 .rw[fF];simp[ag,Fy,Fz,HZ,Jy]
 .simp only[Oi,QP,or_false];rintro p (rfl |rfl |rfl)
  .exact m4 sg (kf hc)
  .decide+kernel
  .exact m4 sg (kf hd)
 .simp only[Oi,QP,or_false];rintro p (rfl |rfl |rfl)
  .exact .inl (kf hc)
  .exact .inr {hn,∅}
  .exact .inl (kf hd)
 .intro j y a e;obtain rfl:j=0:=1.0;exact(Oc e) ▸ kf hc
 .rw[len_app,len_app,len_app];exact(show 1+1+2+1<=100 by decide)
theorem DH:vJ g (" ":Str) 0:=by
 have hn:fP g "":=.inl ∅;refine{{[""],"",bh ?_,?_,(show 1<=6 by decide),?_,rfl,hn,∅,λj y b _=>absurd b (R4 j)},∅}
 .rw[fF];simp[ag,Fy,Fz,Jy]
 .intro p a;rw[Oz.mp a];decide+kernel
 .intro p a;rw[Oz.mp a];exact .inr {hn,∅}
theorem DI{c:Nat}(sg:bZ g)(hc:c∈ch g):vJ g ((" ":Str)++QM ({#[c]}:Str) 6) 0:=by
 have hl:(QM ({#[c]}:Str) 6).9=6:=qD ({#[c]}:Str) 6;have hn:fP g (QM ({#[c]}:Str) 6):=.inr (.inl 1.0);refine{{[QM ({#[c]}:Str) 6],_,bh ?_,?_,(show 1<=6 by decide),?_,rfl,hn,1.0,λj y b _=>absurd b (R4 j)},?_}
 .rw[fF];simp[ag,Fy,Fz]
 .intro p a z;rw[Oz.mp a]at z;exact ji sg ((Oz.mp (Dy ({#[c]}:Str) 6 _ z)) ▸ hc)
 .intro p a;rw[Oz.mp a];exact .inr {hn,1.0}
 .rw[len_app,hl];exact(show 1+6<=100 by decide)
end
end K60
namespace _L
open PySem.Spec PyProof.Rows
theorem qH(g:ss.Perm (bQ ws "" ws))(hw:∀w∈ws,1<=w.9)(j:bears ws r=false) :
 lZ ws ss (lend ss r) c=if bears ws (r++{#[c]})=true then .non else .str (lend ss (r++{#[c]})):=by
 unfold lZ;rw[iQ g j hw,kh g j]
theorem uE(he:("":Str)∈ss)(h:t∈bL g ws ss p):t∈ss:=by grind [bL,gH]
theorem mR{ss:List Str}(nd:ss.Nodup){i:Nat}{p:Str}(h:ss[i]?=ρ p):p∉ss.take i:=by
 intro b
 let{j,c,a}:=Sd.mp b
 rw[Tb]at a;rw[OT]at c;have d:=(O8.mp h).2;have:=(QN nd).mp (a.trans d.symm)
 lia
structure mS(X:Cx)(scope:Qr)(x:Str)(ys:List Str)(ix:List Nat):Prop where
 kind:scope.kind=.function
 one:scope.names.filter (·.2 == .cell)=[(x,.cell)]
 names:∀y∈scope.names,y.2=.local->scope.names.lookup y.1=ρ .local
 var:scope.names.lookup x=ρ .cell
 free:y1 scope X.5
 nd:(x::ys).Nodup
 len:ix.9=ys.9
 slots:∀(j:Nat) (y:Str),ys[j]?=ρ y->∃i:Nat,ix[j]?=ρ i/\X.N[i]?=ρ y/\(X.env.scope.names.lookup y=ρ .cell\/X.env.scope.names.lookup y=ρ .free)/\scope.names.lookup y=ρ .free
noncomputable def bx(X:Cx)(scope:Qr)(x:Str)(N:List Str)(cl:List (Str×Addr))(L:Addr)(s:Shared)(H:Hp)(ex:List Addr)(pn:List (Addr×Obj)):Cx:=
 {aX X scope N ((x,L+1)::cl) L s H ex pn with fn:=λy=>y==x}
theorem xg{X:Cx}{x:Str}{ys:List Str}{ix:List Nat}{sc scope:Qr}{N:List Str}(g:X.env.scope=sc)(l:X.N=N)(h:kE sc scope N x ys ix=true):mS X scope x ys ix:=by
 unfold kE at h;simp only[QO]at h
 let{{{{{{{b,d},f},k},m},n},o},p}:=h
 refine{?_,of_decide_eq_true d,λy a e=>?_,of_decide_eq_true m,λy a e=>?_,of_decide_eq_true n,of_decide_eq_true o,λj y c=>?_}
 .cases e:scope.kind<;>rw[e]at b<;>first |rfl |cases b
 .have:=OD.mp f y a;simpa [e] using this
 .have:=OD.mp k y a;have q:sc.names.lookup y.1=ρ .cell\/sc.names.lookup y.1=ρ .free:=by simpa [e] using this
  show X.env.scope.names.lookup y.1=ρ .cell\/X.env.scope.names.lookup y.1=ρ .free;rw[g];exact q
 .have hl:j<ys.9:=(O8.mp c).1;have:=OD.mp p j (Sv.mpr hl);rw[c]at this
  cases e:ix[j]? with
  |none=>rw[e]at this;cases this
  |some i=>
   rw[e]at this;simp only[QO,VO,decide_eq_true_eq]at this;exact{i,rfl,by rw[l];exact this.1.1,by rw[g];exact this.1.2,this.2}
section
variable{P:Om}{w:World}{K:O4}{mg:Str->Option Value}{base:Heap}{x qual:Str}{st:Stmt}{f:Addr}{fd:P0}{N ps:List Str}{k:Nat}{sp:Sp}
theorem oO.fG(F:oO K x qual st f fd)
 (l:∀(j:Value) (A:Around) (outer:List Env) (s:Shared) (H:Hp) (vs:List V) (Q:VK) (E:XK),N.Nodup->bA k (A.deeper (envOfC qual (ak st) s.heap.objs.size f j))->sp vs H Q E ->
   ∃t,q8 (mw dk P w K mg base N qual (ak st) f j A outer s H E).BW (bc st) t/\t (Ends.fn Q) (start N vs) H)
 (a:(ak st).kind=.function:=by rfl) (b:(ak st).isCoroutine=false:=by rfl) (c:(ak st).isGenerator=false:=by rfl) (nd:N.Nodup:=by decide+kernel) (e:N.take ps.9=ps:=by rfl)
 (g:∀x∈ps,(ak st).names.lookup x=ρ .local\/(ak st).names.lookup x=ρ .cell:=by decide+kernel) (h:∀y∈(ak st).names,y.2≠.free:=by decide+kernel)
 (len:∀vs H Q E,sp vs H Q E->vs.9=ps.9:=by intro _ _ _ _ h;cases h;subst_vars;rfl):aH P w K mg base dk (k+1) f fd ps sp:=
 F.ok ⟨a,b,c,nd,e,g,h⟩ len λj A outer s H vs Q E=>l j A outer s H vs Q E nd
theorem oO.uF(F:oO K x qual st f fd)
 (l:∀(j:Value) (A:Around) (outer:List Env) (s:Shared) (H:Hp) (vs:List V) (Q:VK) (E:XK),N.Nodup->bA k (A.deeper (envOfC qual (ak st) s.heap.objs.size f j))->sp vs H Q E ->
   ∃t,q8 (mw (oY P w) P w K mg base N qual (ak st) f j A outer s H E) (bc st) t/\t (Ends.fn Q) (start N vs) H)
 (a:(ak st).kind=.function:=by rfl) (b:(ak st).isCoroutine=false:=by rfl) (c:(ak st).isGenerator=false:=by rfl) (nd:N.Nodup:=by decide+kernel) (e:N.take ps.9=ps:=by rfl)
 (g:∀x∈ps,(ak st).names.lookup x=ρ .local\/(ak st).names.lookup x=ρ .cell:=by decide+kernel) (h:∀y∈(ak st).names,y.2≠.free:=by decide+kernel)
 (len:∀vs H Q E,sp vs H Q E->vs.9=ps.9:=by intro _ _ _ _ h;cases h;subst_vars;rfl):aH P w K mg base (oY P w) (k+1) f fd ps sp:=
 F.Ib ⟨a,b,c,nd,e,g,h⟩ len λj A outer s H vs Q E=>l j A outer s H vs Q E nd
end
section
variable{X:Cx}
theorem zu:D3 X "str.index" (λx xs H Q=>∃z c i,x=.str z/\xs=[.str {#[c]}]/\z.cps.toList[i]?=ρ c/\(∀j,j<i->z.cps.toList[j]?≠ρ c)/\Q (.int (i:Nat)) H):=by
 intro l s σ H x xs v B Q I m n h
 let{z,c,i,rfl,rfl,hi,f,q}:=h
 let{t,rfl}:=m
 let{u,rfl,o,rfl}:=n.one
 have iY:∀k,StrLaws.At z {#[c]} z.length k↔z.cps.toList[k]?=ρ c:=λk=>by
  unfold StrLaws.At;rw[_B.kc];constructor
  .rintro⟨g,d⟩
   have a:k<z.cps.toList.9:=by
    have:k+1<=z.9:=g;rw[<-_B.au]at this;exact this
   have b:(z.cps.toList.drop k).take 1=[c]:=d;rw[QH a]at b;rw[P1 a];exact congrArg ρ (PY b).1
  .intro g
   let{d,p}:=O8.mp g
   refine{?_,?_}
   .have:k<z.9:=by rw[<-_B.au];exact d
    show k+1<=z.9
    lia
   .show (z.cps.toList.drop k).take 1=[c];rw[QH d,p];rfl
 rcases StrLaws.occ_head z ⟨#[c]⟩ 1 (Ob _) with⟨_,hn⟩ |⟨j,r,e,y,hk⟩
 .exact absurd ((iY i).mpr hi) (hn i)
 .have A:j=i:=by
   rcases Ta j i with w |w |w
   .exact absurd ((iY j).mp y) (f j w)
   .exact w
   .exact absurd ((iY i).mpr hi) (hk i w)
  subst A;exact call_gives UP (R6 _ _ _) F.entry_str_index (F.args_str_index_2 _ _) (gives_str_index z {#[c]} t o j r e) {.int _,H,I.tok _,{_,rfl},q}
end
section
variable{X:Cx}{pins:List (Addr×Obj)}{σ:St}{H:Hp}{s₂:Shared}{scope:Qr}{x:Str}{ys:List Str}{ix:List Nat}{cl:List (Str×Addr)}{fp:List Addr}{L:Addr}
theorem zv(B:mS X scope x ys ix)(I:Inv X pins σ H s₂)(l:∀b∈fp,ib X pins H b)(j:∀b∈fp,b<s₂.8)(p:s₂.8<=L)
 (g:∀y c,cl.lookup y=ρ c->X.env.cells.lookup y=ρ c) (r:∀y∈scope.names,y.2=.free->∃c,cl.lookup y.1=ρ c):(bx X scope x N cl L s₂ H fp (X.pn++pins)).Ok where
 mod:=I.ok.mod
 kind:=B.kind
 glob:=I.ok.glob
 blt:=I.ok.blt
 above:=p
 inj:=λa b c m s=>by
  have big:∀y,cl.lookup y=ρ (L+1)->False:=λy e=>by
   let{v,q}:=I.cell y _ (g y _ e)
   exact OX _ (O7 q.lt (Od p (PX L)))
  rcases dQ m with⟨rfl,rfl⟩ |⟨u,i⟩<;>rcases dQ s with⟨rfl,z⟩ |⟨w,k⟩
  .rfl
  .exact(big _ k).elim
  .subst z;exact(big _ i).elim
  .exact I.ok.inj a b c (g a c i) (g b c k)
 has:=λa ha=>by
  by_cases z:a=x
  .exact{L+1,by rw[z];show ((x,L+1)::cl).lookup x=_;rw[OA];simp}
  .rcases tW ha with f |f
   .let{c,hc}:=r (a,.free) f rfl
    exact{c,rS z hc}
   .have:(a,Ph)∈scope.names.filter (·.2 == .cell):=QC.mpr ⟨f,rfl⟩;rw[B.one]at this;exact absurd (congrArg Prod.fst (Oz.mp this)) z
 BV:=λy c h e=>by
  have t:y=x:=eq_of_beq h;rcases dQ e with⟨_,rfl⟩ |⟨n,_⟩
  .show s₂.8<=L+1;omega
  .exact absurd t n
 hd:=I.ok.hd
 frames:=I.ok.frames
 CA:=.inl rfl
 Ef:=λb d=>{Oe (O7 (j b d) p),λy c h=>by
  rcases dQ h with⟨_,rfl⟩ |⟨_,e⟩
  .exact Py (O7 (j b d) (Od p (PX L)))
  .exact(l b d).2.2.2.2.1 y c (g y c e)}
 bs:=I.bs
 uV:=Od I.ok.uV I.sz
 pQ:=λb o e d=>by
  rcases(l b d).2.2.2.1 with z |z
  .exact I.ok.pQ b o e z
  .exact absurd (O7 (O7 (Oa e) I.ok.uV) z) (OX _)
 tI:=λb d f=>by
  rcases Oi.mp (I.gr b f) with z |z
  .exact(l b d).2.1 z
  .exact(l b d).2.2.1 z
 iC:=I.stack
 A8:=I.j6
end
end _L
namespace _B
open PyProof.Rows
theorem sL:∀(f n:Nat) (g:List Char),0<n->n<f->∃c j,VL 10 f n g=c::j/\c≠'0'
 |0,n,g,_,h=>absurd h 1.0
 |f+1,n,g,a,h=>by
  unfold VL
  by_cases z:n/10=0
  .rw[if_pos z];refine{_,g,rfl,?_};have:n=1\/n=2\/n=3\/n=4\/n=5\/n=6\/n=7\/n=8\/n=9:=1.0;rcases this with rfl |rfl |rfl |rfl |rfl |rfl |rfl |rfl |rfl<;>decide
  .rw[if_neg z];exact sL f (n/10) _ 1.0 1.0
theorem xh{n:Nat}(h:0<n):∃c g,ch (aE n)=c::g/\c≠48:=by
 let{c,g,e,hc}:=sL (n+1) n [] h 1.0
 refine{c.toNat,g.map Char.toNat,?_,λz=>hc (by rw[<-Char.ofNat_toNat c,z])};rw[qF];unfold Nat.toDigits;rw[e];rfl
theorem qI{i:Int}(g:0<=i)(h:i<2^1000):i.natAbs.log2<1920:=by
 by_cases z:i.natAbs=0
 .rw[z];decide
 .refine(Nat.log2_lt z).mpr (O7 (m:=2^1000) ?_ (Qj ⋯ ⋯));have:(i.natAbs:Int)<((2^1000:Nat):Int):=by rw[TZ];simpa [Int.natAbs_of_nonneg g] using h
  exact Int.ofNat_lt.mp this
theorem vM{g:Str}{ws ss:List Str}(h:g.9<=4):∀(n:Nat) (p:Str),cz g ws ss n p<=4^n
 |0,_=>Int.le_refl _
 |n+1,p=>by
  show ((bL g ws ss p).map (cz g ws ss n)).sum<=_;have d:=uo (l:=bL g ws ss p) (a:=cz g ws ss n) (b:=λ_=>(4:Int)^n) λq _=>vM h n q
  have e:∀l:List Str,(l.map λ_=>(4:Int)^n).sum=(l.9:Int)*4^n:=by
   intro l
   induction l with
   |nil=>simp
   |cons x l f=>rw[Og,Pa,f,Ov,Sa,Int.add_mul];lia
  rw[e]at d
  have i:((bL g ws ss p).9:Int)<=4:=by
   delta bL;have:=Tu (λc=>if bears ws (p++{#[c]})=true then τ else ρ (lend ss (p++{#[c]}))) (ch g);rw[au]at this
   lia
  have j:0<=(4:Int)^n:=Int.pow_nonneg ⋯;have k:=Int.mul_le_mul_of_nonneg_right i j;rw[Int.pow_succ]
  lia
theorem vN{g:Str}{ws ss:List Str}(h:g.9<=4){n:Nat}(hn:n<=200):(cz g ws ss n "").natAbs.log2<1920:=by
 refine qI (Dz n "") (Vd (vM h n "") ?_)
 have b:(4:Int)^n<=4^200:=by
  have:=Qj (n:=4) ⋯ hn;have a:((4^n:Nat):Int)<=((4^200:Nat):Int):=Int.ofNat_le.mpr this;rw[TZ,TZ]at a;exact a
 exact Vd b ∅
end _B
namespace _L
open PySem.Spec PyProof.Rows Builtin Builtin.ObjectAttr
section
variable{K:O4}{x C CB:Addr}{nm:Str}{od:Option Addr}
def ExcAt(x C:Addr)(od:Option Addr)(h:Heap):Prop:=(∃vs sl,h.get? x=ρ {.ref C,od,.fields vs,sl})/\∀d,od=ρ d->∃o,h.get? d=ρ o
theorem ExcAt.inst(e:ExcAt x C od h):∃ox o,InstAt h x ox C o:=by
 let{{b,sl,hx},hd}:=e
 cases od with
 |none=>exact{_,τ,hx,rfl,rfl,trivial}
 |some d=>
  let{o,a}:=hd d rfl
  exact{_,ρ o,hx,rfl,rfl,a}
structure nZ(K:O4)(C:Addr):Prop where
 ha:findIn K (.ref C) "__class__"=ρ (ρ (.builtin "object.__class__"))
 hn:Vi K (.builtin "object.__class__") "__get__"=ρ (ρ (.builtin "getset_descriptor.__get__"))
 xP:takesIn K (.builtin "object.__class__")=ρ true
theorem dX:kitOne K (.ref C) (.ref C)=ρ true:=by
 unfold kitOne;rw[if_pos (by simp)]
end
end _L
namespace _L
structure aZ(K:O4)(C:Addr)(nm qual:Str)(st:Stmt)(ps:List Str)(f:Addr)(fd:P0):Prop where
 F:oO K nm qual st f fd
 b:Binds K fd ps []
 m:yo K C nm f
theorem pD:∀(g:List Addr) (j:List (Str×Str)),yf H g (j.map vA)->Ar K H (j.map C5) (g.map V.ref)
 |[],[],_=>rfl
 |[],_::_,h=>by have:=h.1;simp at this
 |_::_,[],h=>by have:=h.1;simp at this
 |r::g,q::j,h=>by
  refine{.ref r,g.map V.ref,rfl,{r,vA q,rfl,h.2 0 r (vA q) rfl rfl,?_},pD g j {by have:=h.1;simpa using this,λi a b c d=>h.2 (i+1) a b c d}};exact{.str q.1,[.str q.2],rfl,⟨rfl,rfl⟩,{.str q.2,[],rfl,⟨rfl,rfl⟩,rfl}}
theorem Ie._B.yT.Ng(R:yT H l j g):Jf K H (.lst (g.map C5)) (.ref l):={l,1,.inl R.l,pD j g R.t}
theorem Br{X:Cx}(g:X.K=K):DY X (Eo K):=by
 subst g;exact cF
end _L
namespace _L
open PySem.Spec PyProof.Rows PySem.W Builtin Builtin.ObjectAttr
noncomputable abbrev FG:List Value:=[.type "ValueError",.type "Exception",.type "BaseException",.type "object"]
noncomputable abbrev m5(CB:Addr):List Value:=.ref CB::FG
section
variable{prog:Om}{w:World}{A:Around}{E:Value->Shared->Prop}{s:Shared}{K:O4}{x C CB:Addr}{name:Str}{v:Value}
theorem zx{Q:Value->Shared->Prop}(X:K.In s.heap)(I:InstAt s.heap x ox C (ρ od))(hc:clsIn K C=ρ cd)(l:cd.mro=.ref C::m5 CB)(o:cd.hasDict=true)
 (g:findIn K (.ref C) "__getattribute__"=ρ (ρ (.builtin "BaseException.__getattribute__"))) (j:findIn K (.ref C) "__getattr__"=ρ τ) (ha:findIn K (.ref C) name=ρ τ)
 (hl:lookIn name od=ρ (ρ v)) (p:handedIn v=true) (h:Q v {s with toks:=s.toks+1}):wpAny (model prog w) A (getAttr (.ref x) name expr) Q E s:=by
 have G:=SZ.ga;refine O6 (wpAny_mkText (Qq (O6 (I.type _ _ _ _ (λ_ _ e=>e) (O6 (Rl X g _ _ _ _ (λ_ _ e=>e) ?_))))));dsimp only;rw[show (RB (Oh C)&&Qa "BaseException.__getattribute__" == Qa "object.__getattribute__")=false from by rw[show (Qa "BaseException.__getattribute__" == Qa "object.__getattribute__")=false from by decide+kernel,RD],if_neg ⋯];have a:Looks (model prog w) s.heap (hookBefore (.ref C)) τ:=looks_hook X (by show (if RB (Oh C) then findIn K (.ref C) "__getattr__" else ρ τ)=ρ τ;rw[if_pos (show RB (Oh C)=true from rfl)];exact j);refine O6 (a _ _ _ _ (λ_ _ e=>e) (O6 (UG (Qq ?_))));unfold callGetattribute;rw[show (expr&&RB (Qa "BaseException.__getattribute__"))=false from RD _,if_neg ⋯];unfold boundAndCalled;rw[G.bind];refine O6 (Oo ?_);show wpAny _ _ (call (.builtin "BaseException.__getattribute__") [.ref x,.str name s.toks]) _ _ _;refine Qw ?_;have sub:Looks (model prog w) s.heap (Ti (.ref x) (.type "BaseException")) true:=I.type.andThen (U9 X (by unfold mroIn;rw[hc,Rn,l];rfl));refine QG G.plain Up ?_;refine @UQ (model prog w) _ _ {s with toks:=s.toks+1} "BaseException.__getattribute__" "BaseException" "__getattribute__" (.ref x) [.str name s.toks] [] _ ∅ ∅ sub (Uz (.ref x) (.str name s.toks)) ?_
 have b:findObj K C (ρ od) name=ρ (.value v):=by
  unfold findObj;rw[hc,ha];simp only[Rn];unfold PySem.W.ownOf;rw[o,if_pos rfl];dsimp only;rw[hl];rfl
 have c:=I.type (M:=model prog w);have d:=looks_find (M:=model prog w) X I b;unfold RQ.«object.__getattribute__»;refine O6 (Oo ?_);refine O6 (Oo (O6 (c _ _ _ _ (λ_ _ e=>e) (O6 (d _ _ _ _ (λ_ _ e=>e) ?_)))));refine Oo ?_;show wpAny _ _ (handedOut v) _ _ _;rw[handedOut_of p];exact Oo h
end
section
variable{prog:Om}{w:World}{A:Around}{s:Shared}{K:O4}{x C CB f:Addr}{name:Str}{v:Value}{R:S1->Shared->Prop}
theorem xi(X:K.In s.heap)(I:InstAt s.heap x ox C od)(hc:clsIn K C=ρ cd)(hm:cd.mro=.ref C::m5 CB)(ha:findIn K (.ref C) name=ρ τ)
 (h:wpAny (model prog w) A.in1 (storeInOwnDict (.ref x) (.ref C) (.str name tk) name v false)
   (λfin s'=>match fin with |.done f=>R (.ok f) s' |.again c'=>c'.quiet=true/\codeAny (model prog w) A c' R s') (λe s'=>R (.error e) s') s) :
 codeAny (model prog w) A (.call (.builtin "object.__setattr__") {[.ref x,.str name tk,v],[]}) R s:=by
 have SF:=PySem.F.store_object;have sub:Looks (model prog w) s.heap (Ti (.ref x) (.type "object")) true:=I.type.andThen (U9 X (by unfold mroIn;rw[hc,Rn,hm];rfl));refine QG SF.slot.plain SF.entry (@UQ (model prog w) _ _ s "object.__setattr__" "object" "__setattr__" (.ref x) [.str name tk,v] [] _ SF.kind SF.split sub (SF.args (.ref x) (.str name tk) v) ?_);have Lh:Looks (model prog w) s.heap (mroOf (.ref C)) cd.mro:=(Tj X hc).andThen .now;have L3:Looks (model prog w) s.heap (storeTaker? τ) τ:=.now;rw[osa_eq,refuse_eq];refine O6 (O6 (I.type.here (O6 (Lh.here ?_))));rw[hm,refuseLoop_ref,refuseLoop_ref,PySem.F.store_ValueError.passes];refine Oo (O6 (I.type.here (O6 ((Rl X ha).here (O6 (L3.here ?_))))));exact h
end
end _L
namespace _L
open PySem.Spec PyProof.Rows
structure aT(K:O4)(C CB:Addr)(nm:Str):Prop where
 lk:∃(q:Str) (N:Addr) (bs:List Value) (sn:List Str) (sub:List Value) (ab:Bool) (col:Option Bool) (dd:Option Addr) (k0 k1 k2 k3 k5:Option Value),
  K.lookup C=ρ (PB nm q C N bs (m5 CB) true sn sub ab col dd k0 k1 k2 k3 k5 "ValueError.__new__")
 sa:findIn K (.ref C) "__setattr__"=ρ (ρ (.builtin "object.__setattr__"))
 ga:findIn K (.ref C) "__getattribute__"=ρ (ρ (.builtin "BaseException.__getattribute__"))
 gh:findIn K (.ref C) "__getattr__"=ρ τ
 kp:keepIn K (.ref C)=true
structure zy(K:O4)(CB:Addr)(nm:Str):Prop where
 lk:∃(q:Str) (N:Addr) (bs:List Value) (hd:Bool) (sn:List Str) (sub:List Value) (ab:Bool) (col:Option Bool) (dd:Option Addr) (k0 k1 k2 k3 k5:Option Value),
  K.lookup CB=ρ (PB nm q CB N bs FG hd sn sub ab col dd k0 k1 k2 k3 k5 "ValueError.__new__")
def Ig(K:O4)(CB:Addr)(tb:DZ)(j i:Nat):TS:=λD σ H=>tb (λσ' cv od H'=>∃C nm,cv=.ref C/\aT K C CB nm/\∀e,H' e=τ->D.nx (((σ'.set j (ρ (.ref e))).set i (ρ (.ref e))).set j τ) (upd H' e (XC e C od))) D σ H
section
variable{prog:Om}{w:World}{A:Around}{R:S1->Shared->Prop}{h:Heap}{g:Array Rr}{d:Drawn}{t:Nat}{os:Pn}{nm q:Str}{C CB N:Addr}{bs:List Value}{hdct:Bool}{sn:List Str}{sub:List Value}{ab:Bool}{col:Option Bool}{dd:Option Addr}{k0 k1 k2 k3 k5:Option Value}
theorem Bt{M:TK}{E:Value->Shared->Prop}{rest:List Value}{Q:Unit->Shared->Prop}(j:h.get? C=ρ (PB nm q C N bs (m5 CB) hdct sn sub ab col dd k0 k1 k2 k3 k5 "ValueError.__new__"))
 (l:Q .unit ⟨h,g,d,t,os⟩):wpAny M A (Tv "ValueError.__new__" {.ref C::rest,[]}) Q E ⟨h,g,d,t,os⟩:=by
 have F:=Qb;have a:(Oh C::m5 CB).contains (.type "ValueError")=true:=rfl;have b:=F.noStar;simp only[Tv,F.newKind,F.newSplit,F.newRow]
 repeat (first |refine Pg j ?_ |(refine Qs j ?_;rw[a]) |refine wpAny_staticBase_exc j ?_ |refine wpAny_madeBy_exc j ?_ |simp only[bne_self_eq_false,R3,if_false] |wp_step)
 exact l
theorem Bu{rest:List Value}(j:h.get? C=ρ (PB nm q C N bs (m5 CB) hdct sn sub ab col dd k0 k1 k2 k3 k5 "ValueError.__new__"))
 (o:R (.ok (.ret (.ref (h.7+1)))) {(h.push {cls:=.type "tuple",data:=.seq rest.6}).push
   {cls:=.ref C,data:=.fields #[.ref h.7,.none,.none,.none,.bool false,.none]},g,d,t,os}) (l:rest.9<=sizeLine:=by size_fits) :
 codeAny (model prog w) A (.builtin "ValueError.__new__" {.ref C::rest,[]}) R ⟨h,g,d,t,os⟩:=by
 have F:=Qb;have a:=F.ends;have b:(Oh C::m5 CB).contains (.type "ValueError")=true:=rfl;have c:(Oh C::m5 CB).contains (.type "AttributeError")=false:=rfl;have e:(Oh C::m5 CB).contains (.type "NameError")=false:=rfl;refine codeAny_builtinAt F.entry ?_;unfold RQ.«BaseException.__new__»;refine VS ?_;show PySem.wpAt _ _ _ (PySem.stack >>= _) _ _ _;refine VS (PySem.wpAt_stack λp f=>UR ?_)
 wp_walk
 refine UR ?_;rw[F.owner]
 repeat (first |with_reducible refine wpAny_madeHere_exc F.canon j ?_ |with_reducible refine Pg j ?_ |(with_reducible refine Qs j ?_;first |rw[b] |rw[c] |rw[e]) |wp_step)
 show R _ _;rw[Q0];exact o
theorem kI{E:Value->Shared->Prop}{Q:Flow->Shared->Prop}(l:A.handled=τ)
 (h:wpAny M A (eval x env) (λv j=>∃e od t,v=.ref e/\j.heap.get? C=ρ (PB nm q C N bs (m5 CB) hdct sn sub ab col dd k0 k1 k2 k3 k5 "ValueError.__new__") /\
   j.heap.get? e=ρ {cls:=.ref C,dict:=od,data:=.fields #[.ref t,.none,.none,.none,.bool false,.none]}/\E (.ref e) j) E s) :
 wpAny M A (exec (.Raise (ρ x) τ pos) env) Q E s:=by
 have key:wpAny M A (raiseStmt env (ρ (do let v <-eval x env;standAt pos;pure v)) τ) Q E s:=by
  have b:(Oh C::m5 CB).contains (.type "BaseException")=true:=rfl;unfold raiseStmt;refine O6 (O6 (OB h (λv j a=>O6 (SY (Oo ?_))) λ_ _ x=>x))
  let{e,od,t,rfl,c,f,i}:=a
  let{k,g,d,m,os}:=j
  repeat (first |with_reducible refine Pg f ?_ |with_reducible refine Pg c ?_ |(with_reducible refine Qs c ?_;rw[b]) |wp_step)
  exact wpAny_raiseNew_none l i
 rw[arm_exec_Raise];exact O6 (SY key)
end
section
variable{X:Cx}{e o:Expr}{es:List Expr}{ta:TE}{t:TA}{pos apos:Pos}{C f:Addr}{q:Str}{st:Stmt}{ps:List Str}{k:Nat}{sp:Sp}
theorem Ih{m:Str}{fd:P0}{pl:Sem Bool}(he:PE X o ta)(c:pR X.K C)(g:aZ X.K C m q st ps f fd)(F:aH X.prog X.w X.K X.mg X.base dk k f fd ps sp)(l:bA k X.A:=by exact bA.mono (by assumption) ⋯)
 (r:eval (.Call (.Attribute o m apos) [] [] pos) X.5=(do
   let j <-eval o X.5
   standAt apos.atName
   let (f,first) <-holding [j] (Ry j m pl)
   Tq pos f first (backTo pos (starEach [] X.5)) (backToKw pos (QJ [] X.5))):=by rfl) :
 PE X (.Call (.Attribute o m apos) [] [] pos) (vb C m sp [] E0 ta nU):=yK he c g.m F l g.b .nil rM r
theorem E4{m:Str}{fd:P0}{pl:Sem Bool}(he:PE X o ta)(c:pR X.K C)(j:aZ X.K C m q st ps f fd)(F:aH X.prog X.w X.K X.mg X.base dk k f fd ps sp)(ha:PA X (e::es) t)(r:bA k X.A:=by exact bA.mono (by assumption) ⋯)
 (g:starEach (e::es) X.5=(false,eval e X.5)::starEach es X.5:=by rfl) (hpl:(backTo pos (starEach es X.5)).any (·.1)=false:=by rfl)
 (I:eval (.Call (.Attribute o m apos) (e::es) [] pos) X.5=(do
   let l <-eval o X.5
   standAt apos.atName
   let (f,first) <-holding [l] (Ry l m pl)
   Tq pos f first (backTo pos (starEach (e::es) X.5)) (backToKw pos (QJ [] X.5))):=by rfl) :
 PE X (.Call (.Attribute o m apos) (e::es) [] pos) (vb C m sp [] E0 ta t):=lU he c j.m F r j.b .nil rM ha g hpl I
end
section
variable{M:TK}{A:Around}{E:Value->Shared->Prop}{e C CB:Addr}{nm q xj qB:Str}{N NB:Addr}{bs Li:List Value}{hdct Lj:Bool}{sn Ln:List Str}{sub subB:List Value}{ab Lp:Bool}{col Ii:Option Bool}{dd Lq:Option Addr}{k0 k1 k2 k3 k5 l0 l1 l2 l3 l5:Option Value}
theorem DJ{h:Heap}{g:Array Rr}{d:Drawn}{t:Nat}{os:Pn}{l:Obj}{Q:Bool->Shared->Prop}(o:h.get? C=ρ (PB nm q C N bs (m5 CB) hdct sn sub ab col dd k0 k1 k2 k3 k5 "ValueError.__new__"))
 (p:h.get? CB=ρ (PB xj qB CB NB Li FG Lj Ln subB Lp Ii Lq l0 l1 l2 l3 l5 "ValueError.__new__")) (he:h.get? e=ρ l) (j:l.cls=.ref C) (r:Q true ⟨h,g,d,t,os⟩) :
 wpAny M A (excMatches (.ref e) (.ref CB)) Q E ⟨h,g,d,t,os⟩:=by
 have a:(Oh CB::FG).contains (.type "BaseException")=true:=rfl;have b:(Oh C::m5 CB).contains (.ref CB)=true:=by simp[Ve]
 have f:=tc_notTuple;unfold excMatches
 repeat (first |(with_reducible refine Pg he ?_;rw[j]) |with_reducible refine Pg o ?_ |with_reducible refine Pg p ?_ |(with_reducible refine Qs o ?_;rw[b]) |(with_reducible refine Qs p ?_;rw[a]) |wp_step)
 exact r
end
section
variable{X:Cx}{CB:Addr}{xj n x Gr:Str}{body:List Stmt}{tb:DZ}{i j:Nat}{p1 p2 p3 p4 zz pos:Pos}
theorem DK(r:X.stack=X.5::X.outer/\X.env.frame=ρ X.env.locals)(l:EX X body tb)(hg:Gl X xj)(hm:X.mg xj=ρ (.ref CB))(TB:zy X.K CB Gr)(T:X.N.Nodup)(J:X.N[j]?=ρ n)(hi:X.N[i]?=ρ x)
 (g:X.env.scope.names.lookup n=ρ .local) (hx:Loc X.env.scope x) (Lr:(xj==("__debug__":Str))=false:=by decide) (Ls:(n==("__debug__":Str))=false:=by decide) (Lv:(n==("__classdict__":Str))=false:=by decide)
 (hf:X.fn x=true\/X.env.scope.names.lookup x=ρ .local:=by first |exact .inl rfl |exact .inr rfl |assumption) (HQ:QK (.Name n p3) (ρ (.Name x p2)) p4.line X.5=pure false:=by rfl) :
 PS X (.Try body [.ExceptHandler (ρ (.Name xj p1)) (ρ n) [.Assign [.Name x p2] (.Name n p3) p4] zz] [] [] pos) (Ig X.K CB tb j i):=by
 refine{?_};intro a s σ H D I h;refine wpAny_Try_except (OB (l a s σ H D _ I h) (λf s1 q=>?_) λev s1 q=>?_)
 .cases f with
  |next=>exact PQ q
  |ret v=>exact q
  |brk=>exact q
  |cont=>exact q
 let{k,H0,w,d,e,L,M,u,rfl,t,bare,un,aI,F,C,Ij,O,U,hD}:=q
 cases O;have I1:Inv X a k u s1:=d.oZ t un aI bare λb z=>absurd z (by simp);have Q:(X.5::X.outer).filterMap (·.frame)=lM X.stack:=by rw[r.1];rfl
 have A:=I1.j6
 have B:w.8<=s1.8:=VM λz=>by
  let{R,_,vs,sl,he,_}:=F
  exact absurd (O7 (QZ R (Oa he)) (Rw z)) (OX _)
 refine rH (lo:=w.8) (H:=u) (base:=X.base) (outer:=X.outer) (by rw[<-r.1];exact d.ok.frames) (by rw[<-r.1];exact I1.stack) r.2 B (λb l=>aI.fresh l) F λh2 F2 p=>?_;rw[Q]at p
 let{S,E,J2}:=d.yH t bare un aI p A
 have V:=J2 s1.toks
 let{qC,NC,Nh,Ni,Lw,Nj,Lx,Nk,c0,c1,c2,c3,c5,Y}:=U.lk
 let{qT,NT,Nm,Nn,Np,Ly,Nq,Lz,Nr,t0,t1,t2,t3,t5,Z}:=TB.lk
 let{Nt,Nu,LA,_}:=id F2.ob
 refine wpAny_handleBy_cons (codeAny_handlers_test (eA (X:=X.marked e) (V.marked (e:=e)) hg hm ?_ Lr)) (by intro z;cases z);refine DJ (V.dC _ _ Y) (V.dC _ _ Z) LA rfl ?_;refine codeAny_handlers_suite_as ?_;refine tX F2 λh3 F3 k3=>?_;have LC:yl w.heap.objs.size u (lM X.stack) h2 h3:={λb o q l _=>k3 b o q l,λb o q l=>{o.slots,k3 b o q (.inl ?_)}}
 rotate_left
 ·
  have:∃o,w.heap.get? b=ρ o:=by
   let{_,o,G,_}:=d.stack.mem l
   exact⟨o,G⟩
  let{o,G}:=this
  exact Oa G
 let{Nv,LD,J3}:=d.yH (s1:={s1 with heap:=h2}) t bare S E LC A
 have I3:=J3 s1.toks
 let{Nw,Nx,LI,_}:=id F3.ob
 have old:∀{b:Addr},b<w.8->b≠e:=λl z=>by rw[z]at l;exact absurd (O7 l F.ge) (OX _)
 have LJ:Inv X a k (upd u e (XC e L M)) {s1 with heap:=h3}:=I3.F8 F.nt (Od d.sz F.ge) (Pz (old d.lt)) (λy c hc=>old (by
  let{v,o,G,_}:=d.cell y c hc
  exact Oa G)) (λp hp=>old (Oa (d.pin p hp).1)) (HK LI)
 refine dP (v:=.ref e) LJ T J (.inl g) rfl (λs4 I4=>?_) (.inr g);have JE:j<k.9:=by rw[d.len];exact(O8.mp J).1
 have ev:=tZ (X:=(X.marked e).BW) (pos:=p3) J (.inl g) Ls Lv a s4 _ (upd u e (XC e L M)) (λv wW=>v=.ref e/\wW=upd u e (XC e L M)) ((I4.marked (e:=e)).iD _) {.ref e,Qu JE,rfl,rfl};refine Pw (Qm (D8 (bb ev λv s5 ⟨y,H5,I5,r5,ey,eH⟩=>?_)) HQ);subst ey;subst eH;have I5:=(I5.cV).unmarked d.ok;refine dP I5 T hi hx r5 (λs6 I6=>PQ ?_) hf
 let{m,hn,hl}:=id I6.loc
 refine wpAny_nameGoes_keeps g hn (by rw[I6.ok.kind];rfl) λh7 v7 LK LL=>?_;exact{_,_,I6.yD (m:=m) (tk:=s6.toks+1) T J g ⟨m,hn,hl,LK⟩ LL,hD e F.nt}
end
end _L
local macro_rules|`(tactic|ac_rfl)=>`(tactic|try dsimp only[K60.dU,K60.dW,K60.bj,K60.bo])
namespace K60
section
variable{K:O4}
def kJ(K:O4)(CX:Addr)(Q:VK):XK:=λcv od H'=>∃C nm,cv=.ref C/\aT K C CX nm/\∀e p wW,a7 H' wW->H' e=τ->wW e=ρ (XC e C od)->wW p=ρ (.tup [.non,.ref e])->Q (.ref p) wW
inductive m6(K:O4)(CD CB CN CR CE CS CT CW CX:Addr)(vs:List V)(H:Hp)(Q:VK)(gB:XK):Prop
 |mk (x dx v r ps) (_:vs=[.ref x,.str r]) (_:H x=ρ (ke CD dx v)) (_:r=P6 SP ps) (_:∀p∈ps,32∉ch p) (_:r.9<=1000) (_:ps.9<=1000) (_:mQ CD CB CN CR CE CS CT CW H (Fx Q) (kJ K CX Q) x dx v ps)
end
structure Lk(K:O4)(mg:Str->Option Value) where
 T:Txt mg
 (kK kL pE gM gN fQ ip jk jl fH dq eV dY jm mU iq sM fR mV mW kM mX gO jn vO mY gP sN kN lB qJ eB eu eW gf jo o1 kj uG xk qK o4 o5 qL sO xl uH zA mZ eX o6 n0 qM qN Bv n4 fS qO iR eY n5 kl qP qQ sP zB qR xm lC fI qS zC eC lD n7 n8 o7 n9 jq nc ng kO o8 kP nh Bw zD eZ iS du ni f3 km kQ kR jr kS js fT ir f5 gQ gR jt:Addr)
 (kT kU pF gS gT fU iu ju jv jw fV f6 dZ jx nj iw sQ fW nk nq kW nr gU jy vP nu gV sR kX lE qU jz ew f7 gg jA o9 kn uI xn qV oa og qW sS xo uJ zE nv ko oh nw qX qY By nA lF qZ iT f9 nB kq r0 r4 sT zF r6 xq lG fJ r9 zG jB lH nC nD oi nE jC nF nG kY oj kZ nH Bz zH fb iU fX nI fg kr lh lj jD lq jE fY iy fh lu gW jF:P0)
 gX:FnAt K mg "all_among" (top 21) ["text","signs"] kK kT
 lx:FnAt K mg "are_signs" (top 22) ["thing"] kL kU
 pG:FnAt K mg "is_word" (top 23) ["thing","signs"] pE pF
 cL:FnAt K mg "check_barred" (top 24) ["barred","signs"] gM gS
 ee:FnAt K mg "bears_barred" (top 25) ["row","barred"] gN gT
 fZ:FnAt K mg "sorted_places" (top 26) ["barred"] fQ fU
 iz:FnAt K mg "longest_end" (top 27) ["row","places"] ip iu
 jG:FnAt K mg "moves_from" (top 28) ["place","signs","barred","places"] jk ju
 jH:FnAt K mg "leads_into" (top 29) ["ends","lot"] jl jv
 jI:FnAt K mg "live_among" (top 30) ["moves"] fH jw
 ly:FnAt K mg "ends_from" (top 33) ["band","place"] kM kW
 nJ:FnAt K mg "all_ends" (top 34) ["band"] mX nr
 cM:FnAt K mg "counts_up_to" (top 35) ["band","length"] gO gU
 jJ:FnAt K mg "count_from" (top 36) ["band","place","length"] jn jy
 vQ:FnAt K mg "count" (top 37) ["band","length"] vO vP
 nK:FnAt K mg "is_whole" (top 39) ["thing"] mY nu
 eh:FnAt K mg "rows_through" (top 41) ["band","place","sign","counts"] gP gV
 jK:FnAt K mg "row_at" (top 42) ["band","length","number"] sN sR
 eD:FnAt K mg "number_of" (top 43) ["band","row"] kN kX
 xQ:FnAt K mg "steps_by_word" (top 45) ["writer"] lB lE
 BA:FnAt K mg "desks_into" (top 46) ["pairs","ends"] qJ qU
 DL:FnAt K mg "all_rows" (top 49) ["band","wide"] uG uI
 E5:FnAt K mg "is_rate" (top 50) ["band","many","wide"] xk xn
 BC:FnAt K mg "check_rate" (top 51) ["band","many","wide"] qK qV
 Ad:FnAt K mg "longer_rows" (top 52) ["band","rows"] o4 oa
 Ae:FnAt K mg "blocks_from" (top 53) ["band","place","wide"] o5 og
 BD:FnAt K mg "block_ends" (top 55) ["band","wide"] qL qW
 Ck:FnAt K mg "weight_of" (top 56) ["places","weights"] sO sS
 E6:FnAt K mg "lowered" (top 57) ["ends","many","weights"] xl xo
 DM:FnAt K mg "greatest" (top 58) ["band","many","wide","most"] uH uJ
 FH:FnAt K mg "scarce" (top 59) ["band","many","wide","most"] zA zE
 zI:FnAt K mg "copied_steps" (top 61) ["line"] mZ nv
 Af:FnAt K mg "first_sheet" (top 63) ["band","many","wide","weights"] o6 oh
 zJ:FnAt K mg "is_number_of" (top 64) ["number","things"] n0 nw
 BE:FnAt K mg "check_part" (top 65) ["sheet","many","steps","weight"] qM qX
 BF:FnAt K mg "with_twins" (top 66) ["line","desk","twin"] qN qY
 Gs:FnAt K mg "split" (top 67) ["sheet","many","desk","numbers","weight"] Bv By
 zK:FnAt K mg "copied_sheet" (top 72) ["sheet"] n4 nA
 uK:FnAt K mg "check_not_scarce" (top 74) ["band","many","wide"] iR iT
 pH:FnAt K mg "weights_of_least_most" (top 75) ["band","many","wide"] eY f9
 zL:FnAt K mg "reached_from" (top 76) ["sheet","desk"] n5 nB
 xr:FnAt K mg "closed_weights" (top 77) ["band","many","wide","weights"] kl kq
 BG:FnAt K mg "steps_into" (top 78) ["line","desks"] qP r0
 BH:FnAt K mg "kept_desks" (top 79) ["sheet","many"] qQ r4
 Cm:FnAt K mg "step_down" (top 80) ["sheet"] sP sT
 FI:FnAt K mg "run_by" (top 81) ["weights","numbers","many"] zB zF
 BI:FnAt K mg "next_split" (top 82) ["sheet","many"] qR r6
 E7:FnAt K mg "plan_of" (top 83) ["band","many","wide"] xm xq
 xR:FnAt K mg "blocks_behind" (top 85) ["band","wide"] lC lG
 rg:FnAt K mg "steps_by_new_numbers" (top 86) ["line","kept","many"] fI fJ
 BJ:FnAt K mg "check_data" (top 87) ["data","many"] qS r9
 FJ:FnAt K mg "walked" (top 88) ["lines","desk","data"] zC zG
 gY:FnAt K mg "is_number" (top 94) ["word"] kO kY
 Ag:FnAt K mg "are_numbers" (top 95) ["words"] o8 oj
 gZ:FnAt K mg "is_length" (top 96) ["word"] kP kZ
 nL:FnAt K mg "has_form" (top 97) ["first","others"] nh nH
 Gu:FnAt K mg "shown" (top 98) ["thing"] Bw Bz
 FK:FnAt K mg "listed" (top 99) ["things"] zD zH
 bW:FnAt K mg "answer_of_band" (top 100) ["band","first","others"] eZ fb
 uL:FnAt K mg "answer_of_writer" (top 101) ["writer","first","others"] iS iU
 di:FnAt K mg "_law_cell" (top 104) ["_law_script","_law_place"] kQ lh
 eE:FnAt K mg "_law_draw" (top 105) ["_law_cell_here","_law_turn","_law_many"] kR lj
 jL:FnAt K mg "_law_signs" (top 106) ["_law_cell_here"] jr jD
 lz:FnAt K mg "_law_word" (top 107) ["_law_cell_here","_law_signs_here"] kS lq
 jM:FnAt K mg "_law_words" (top 108) ["_law_script","_law_at","_law_signs_here","_law_most"] js jE
 dv:FnAt K mg "_law_band_row" (top 109) ["_law_script","_law_at"] fT fY
 aQ:FnAt K mg "_law_caught" (top 110) ["_law_desk","_law_row"] ir iy
 cY:FnAt K mg "_law_good_rows" (top 111) ["_law_signs_here","_law_words_here","_law_length"] f5 fh
 bB:FnAt K mg "_law_said" (top 112) ["_law_desk","_law_row","_law_due"] gQ lu
 hA:FnAt K mg "_law_refused" (top 113) ["_law_desk","_law_signs_here","_law_words_here","_law_length","_law_many"] gR gW
 dH:FnAt K mg "_law_right" (top 114) ["_law_desk","_law_signs_here","_law_words_here","_law_length"] jt jF
 al:Addr
 DN:mg "Band"=ρ (.ref al)
 ax:B8 K al
 BK:Mk K al dq
 c7:Addr
 FL:mg "Reader"=ρ (.ref c7)
 E8:wR K c7
 E9:Mk K c7 eB
 m7:Addr
 Gv:mg "Sheet"=ρ (.ref m7)
 FN:z5 K m7
 FO:Mk K m7 eX
 nM:Addr
 Ik:mg "Plan"=ρ (.ref nM)
 Gw:Bc K nM
 Gx:Mk K nM fS
 bK:Addr
 FP:mg "Writer"=ρ (.ref bK)
 Ea:wV K bK
 Eb:Mk K bK eC
 bp:Addr
 zM:mg "Desk"=ρ (.ref bp)
 bR:Be K bp
 vR:Mk K bp du
 g6:aZ K al "__init__" "Band.__init__" (inClass (top 31) 0) ["self","signs","barred"] dq fV
 cZ:aZ K al "check_row" "Band.check_row" (inClass (top 31) 1) ["self","row"] eV f6
 cg:aZ K al "check_place" "Band.check_place" (inClass (top 31) 2) ["self","place"] dY dZ
 vS:aZ K al "check_live" "Band.check_live" (inClass (top 31) 3) ["self","place"] jm jx
 zN:aZ K al "is_good" "Band.is_good" (inClass (top 31) 4) ["self","row"] mU nj
 iA:aZ K al "places" "Band.places" (inClass (top 31) 5) ["self"] iq iw
 Cp:aZ K al "live" "Band.live" (inClass (top 31) 6) ["self"] sM sQ
 dw:aZ K al "place_of" "Band.place_of" (inClass (top 31) 7) ["self","row"] fR fW
 ei:aZ K al "led" "Band.led" (inClass (top 31) 8) ["self","place","sign"] mV nk
 zO:aZ K al "longest" "Band.longest" (inClass (top 31) 9) ["self"] mW nq
 vT:aZ K c7 "__init__" "Reader.__init__" (inClass (top 47) 0) ["self","writer"] eB jz
 nT:aZ K c7 "blocks_in_window" "Reader.blocks_in_window" (inClass (top 47) 1) ["self"] eu ew
 pI:aZ K c7 "desks_ahead_of" "Reader.desks_ahead_of" (inClass (top 47) 2) ["self","row"] eW f7
 rx:aZ K c7 "word_fitting" "Reader.word_fitting" (inClass (top 47) 3) ["self","window"] gf gg
 vU:aZ K c7 "words_in" "Reader.words_in" (inClass (top 47) 5) ["self","length"] jo jA
 Ah:aZ K c7 "read" "Reader.read" (inClass (top 47) 6) ["self","row"] o1 o9
 xt:aZ K c7 "touched" "Reader.touched" (inClass (top 47) 7) ["self","length","number"] kj kn
 xu:aZ K m7 "__init__" "Sheet.__init__" (inClass (top 62) 0) ["self","homes","weights","lines"] eX ko
 xS:aZ K nM "__init__" "Plan.__init__" (inClass (top 73) 0) ["self","weights","splits","kept","last"] fS lF
 BL:aZ K nM "sheet" "Plan.sheet" (inClass (top 73) 1) ["self"] qO qZ
 vV:aZ K bK "__init__" "Writer.__init__" (inClass (top 89) 0) ["self","band","many","wide"] eC jB
 xT:aZ K bK "behind" "Writer.behind" (inClass (top 89) 1) ["self"] lD lH
 zP:aZ K bK "ahead" "Writer.ahead" (inClass (top 89) 2) ["self"] n7 nC
 zQ:aZ K bK "start" "Writer.start" (inClass (top 89) 3) ["self"] n8 nD
 Ai:aZ K bK "lead" "Writer.lead" (inClass (top 89) 4) ["self"] o7 oi
 zR:aZ K bK "desks" "Writer.desks" (inClass (top 89) 5) ["self"] n9 nE
 vW:aZ K bK "place_at" "Writer.place_at" (inClass (top 89) 6) ["self","desk"] jq jC
 zS:aZ K bK "steps" "Writer.steps" (inClass (top 89) 7) ["self","desk"] nc nF
 zT:aZ K bK "write" "Writer.write" (inClass (top 89) 8) ["self","data"] ng nG
 dz:aZ K bp "__init__" "Desk.__init__" (inClass (top 102) 0) ["self"] du fX
 iV:aZ K bp "say" "Desk.say" (inClass (top 102) 1) ["self","row"] ni nI
 d0:aZ K bp "take_band" "Desk.take_band" (inClass (top 102) 2) ["self","signs","barred"] f3 fg
 xx:aZ K bp "take_rate" "Desk.take_rate" (inClass (top 102) 3) ["self","many","wide"] km kr
 aA:Addr
 dj:mg "BandError"=ρ (.ref aA)
 XT:zy K aA "BandError"
 XB:C6 K aA
 bz:Addr
 kt:mg "NoSigns"=ρ (.ref bz)
 fi:aT K bz aA "NoSigns"
 pJ:nZ K bz
 uM:OH K (.ref bz) "__init__"=ρ (ρ (.builtin "ValueError.__init__"))
 aO:Addr
 pK:mg "TooMany"=ρ (.ref aO)
 dM:aT K aO aA "TooMany"
 xA:nZ K aO
 bF:Addr
 cj:P0
 pL:oO K "__init__" "TooMany.__init__" (inClass (top 4) 0) bF cj
 pM:Binds K cj ["self","many"] []
 uN:OH K (.ref aO) "__init__"=ρ (ρ (.ref bF))
 uO:Rh K (.ref bF)=true
 hB:OH K (.ref aO) "many"=ρ τ
 b8:Addr
 sU:mg "NoWord"=ρ (.ref b8)
 fj:aT K b8 aA "NoWord"
 zU:nZ K b8
 bS:Addr
 cN:P0
 sV:oO K "__init__" "NoWord.__init__" (inClass (top 5) 0) bS cN
 sW:Binds K cN ["self","number"] []
 xB:OH K (.ref b8) "__init__"=ρ (ρ (.ref bS))
 xC:Rh K (.ref bS)=true
 g7:OH K (.ref b8) "number"=ρ τ
 b9:Addr
 rh:mg "NoRow"=ρ (.ref b9)
 fK:aT K b9 aA "NoRow"
 BM:nZ K b9
 bX:Addr
 d1:P0
 vX:oO K "__init__" "NoRow.__init__" (inClass (top 6) 0) bX d1
 vY:Binds K d1 ["self","number"] []
 zV:OH K (.ref b9) "__init__"=ρ (ρ (.ref bX))
 zW:Rh K (.ref bX)=true
 hF:OH K (.ref b9) "number"=ρ τ
 aU:Addr
 sX:mg "Barred"=ρ (.ref aU)
 fk:aT K aU aA "Barred"
 zX:nZ K aU
 bT:Addr
 cO:P0
 sY:oO K "__init__" "Barred.__init__" (inClass (top 7) 0) bT cO
 sZ:Binds K cO ["self","length"] []
 xD:OH K (.ref aU) "__init__"=ρ (ρ (.ref bT))
 xE:Rh K (.ref bT)=true
 g8:OH K (.ref aU) "length"=ρ τ
 bu:Addr
 nN:mg "NoNumber"=ρ (.ref bu)
 en:aT K bu aA "NoNumber"
 nO:nZ K bu
 t7:OH K (.ref bu) "__init__"=ρ (ρ (.builtin "ValueError.__init__"))
 zY:∃t,mg "MOST_BLOCKS"=ρ (.int 24 t)
 zZ:∃t,mg "MOST_WEIGHT"=ρ (.int 8 t)
 ry:∃t,mg "MOST_WEIGHT_IN_ALL"=ρ (.int 40 t)
 lI:∃t,mg "MOST_FIGURES"=ρ (.int 60 t)
 om:∃t,mg "MOST_SIGNS"=ρ (.int 200 t)
 uP:∃t,mg "FIGURES"=ρ (.str (OM "0123456789") t)
 known:∃t,mg "KNOWN_SIGNS"=ρ (.str cK t)
section
variable{P:Om}{w:World}{K:O4}{mg:Str->Option Value}{base:Heap}
theorem jN(L:Lk K mg):aH P w K mg base dk 1 L.kK L.kT ["text","signs"] AW:=by
 have T:=L.T;refine L.gX.F.fG (N:=["text","signs"]) (λf A outer s H m Q E nd n h=>?_)
 let{a,b,rfl,hl,k}:=h
 refine{_,(a6 (ai (aD (mz rfl) (by rfl) T.all Dl (aB (cJ rfl (bg ["signs"] [1]) (gx (0)) (λ_ _ _ _ _ _=>cf) (λ_ _ _ _ _ _=>(bO eS (0) (1) rfl))))))),?_}
 ac_rfl
 refine{1,a,rfl,λl e=>comp_map (FA b) (d9 a) e (by unfold b2;rw[O5];exact aa (Od (S3 (au a)) ())) (λ_ _=>trivial) (λx g o hx _ q=>?_) (λi j d=>?_)}
 .let{c,1}:=Ol.mp hx
  exact{2,_,1,rfl,q g (a7.refl _)}
 .rw[wY]at d;refine{l,1,aK.of d,?_};have:=k i j;rw[V3];exact this
theorem g9(L:Lk K mg):aH P w K mg base dk 1 L.gN L.gT ["row","barred"] (AX K):=by
 have T:=L.T;refine L.ee.F.fG (N:=["row","barred"]) (λi A outer s H n Q E nd o h=>?_)
 let{r,a,j,rfl,f,hl,k}:=h
 refine{_,(a6 (ai (aD (my rfl) (by rfl) T.any Dm (aB (cJ rfl (bg ["row"] [0]) (bP (1)) (λ_ _ _ _ _ _=>cf) (λ_ _ _ _ _ _=>(bO eS (0) (1) rfl))))))),?_}
 ac_rfl
 refine{1,a,rfl,{_,f},λl d=>comp_map (FA r) (cm K a (j.map V.str)) d (by rw[O5];exact aa ()) (λg e=>e.seq f) (λx m p hx _ q=>?_) (λg e b=>?_)}
 .let{c,1}:=Ol.mp hx
  exact{2,_,1,rfl,q m (a7.refl _)}
 .rw[sC]at b;refine{l,1,aK.of b,?_};have:=k g e;rw[Tl];exact this
theorem ri(L:Lk K mg):aH P w K mg base dk 2 L.kL L.kU ["thing"] DA:=by
 have T:=L.T;refine L.lx.F.fG (N:=["thing"]) (λo A outer s H G Q E nd I h=>?_)
 let{v,rfl,h}:=h
 let{r,d}:=L.known
 refine{_,(a0 (aG (PW.pt (cQ (aY (aN (aD cw (by rfl) T.vF jf (a4 (0) (aB (hM (v:=.ty "str") (by rfl) T.str kd rfl)))))) (cQ (bE rK (vv T.len (0)) a9) (cE (bE j7 (vv T.len (0)) a9))))) (a6 (ai bI)) aq)
  (a6 (ai (gz (bO dg (aD rW (by rfl) T.len Ug (aB (aL (sq rfl) (by rfl) T.set HU (aB (0))))) (vv T.len (0)) (fv _)) (k7 (af (jN L) L.gX (a4 (0) (aB (c9 (v:=.str cK) (by rfl) d ⟨r,rfl⟩))))))))),?_}
 ac_rfl
 rcases h with⟨x,rfl,S,k⟩ |⟨N,k⟩
 .have a:x.9<=sizeLine:=aa (by have:=S.hi;lia);refine{1,_,_,_,true,rfl,dE.str x,rfl,true,rfl,aC ?_};refine{1,x,rfl,a,_,1,rfl,1,?_};refine y3 (by have:=S.lo;simp;lia) ?_;refine{1,x,rfl,a,_,1,rfl,1,?_};refine y3 (by have:=S.hi;simp;lia) ?_;refine{1,x,rfl,?_,λp b=>?_}
  .have:=S.hi;show x.9+1<R7;unfold R7
   lia
  refine{p,1,a5,1,x,rfl,a,rfl,?_};refine{1,?_};refine Et (by rw[sD S.nd];simp) ?_;refine{1,x,cK,rfl,by have:=S.hi;lia,λf g=>?_};have e:((ch x).all λc=>decide (c∈ch cK))=true:=OD.mpr λc hc=>decide_eq_true (S.sub c hc);rw[e];exact k f ((a7.upd b).trans g)
 .by_cases n:∃x,v=.str x
  rotate_left
  .let{t,u,hk}:=Cj (K:=K) N.1 λz e=>n ⟨z,e⟩
   exact{1,_,_,_,false,rfl,u,hk,false,rfl,bH (k H (a7.refl _))}
  let{x,rfl}:=n
  let{nx,l}:=N.2 x rfl
  have a:x.9<=sizeLine:=aa ();refine{1,_,_,_,true,rfl,dE.str x,rfl,true,rfl,aC ?_}
  by_cases y:x.9<2
  .exact{1,x,rfl,a,_,1,rfl,true,congrArg V.bl (decide_eq_true ()),bH (k H (a7.refl _))}
  refine{1,x,rfl,a,_,1,rfl,false,congrArg V.bl (decide_eq_false ()),aC ?_}
  by_cases B:4<x.9
  .exact{1,x,rfl,a,_,1,rfl,true,congrArg V.bl (decide_eq_true ()),bH (k H (a7.refl _))}
  refine{1,x,rfl,a,_,1,rfl,false,congrArg V.bl (decide_eq_false ()),aC ?_};refine{1,x,rfl,?_,λp b=>?_}
  .show x.9+1<R7;unfold R7
   lia
  refine{p,1,a5,1,x,rfl,a,rfl,?_}
  by_cases hd:(bf (bD x) x.cps.size).9=x.9
  rotate_left
  .exact{false,congrArg V.bl (decide_eq_false λz=>hd (by have:=V.int.inj z;lia)),aC (k _ (a7.upd b))}
  refine{true,congrArg V.bl (decide_eq_true (by rw[hd])),bH ?_};refine{1,x,cK,rfl,(),λf g=>?_}
  have e:((ch x).all λc=>decide (c∈ch cK))=false:=by
    rcases nx with q |q |⟨c,hc,hn⟩ |⟨i,j,m,C,e⟩
    .exact absurd q y
    .exact absurd q B
    .cases D:((ch x).all λc=>decide (c∈ch cK)) with
     |false=>rfl
     |true=>exact absurd (of_decide_eq_true (OD.mp D c hc)) hn
    .have:=mm (bD x) m e x.cps.size C;exact absurd hd (by show ¬_=x.cps.size;lia)
  rw[e];exact k f ((a7.upd b).trans g)
theorem uQ(L:Lk K mg):aH P w K mg base dk 2 L.pE L.pF ["thing","signs"] DB:=by
 have T:=L.T;refine L.pG.F.fG (N:=["thing","signs"]) (λj A outer s H p Q E nd r h=>?_)
 let{v,g,rfl,h}:=h
 refine{_,(a0 (aG (PW.pt (cQ (aY (aN (aD cw (by rfl) T.vF jf (a4 (0) (aB (hM (v:=.ty "str") (by rfl) T.str kd rfl)))))) (cQ (bE rK (vv T.len (0)) a9) (cE (bE j7 (vv T.len (0)) a9))))) (a6 (ai bI)) aq)
  (a6 (ai (af (jN L) L.gX (a4 (0) (aB (1))))))),?_}
 ac_rfl
 rcases h with⟨x,rfl,S,k⟩ |⟨N,k⟩
 .have a:x.9<=sizeLine:=aa (by have:=S.hi;lia);refine{1,_,_,_,true,rfl,dE.str x,rfl,true,rfl,?_};refine aC ?_;refine{1,x,rfl,a,_,1,rfl,1,?_};refine y3 (by have:=S.lo;simp;lia) ?_;refine{1,x,rfl,a,_,1,rfl,1,?_};refine y3 (by have:=S.hi;simp;lia) ?_;refine{2,x,g,rfl,by have:=S.hi;lia,λb d=>?_};have e:((ch x).all λc=>decide (c∈ch g))=true:=OD.mpr λc hc=>decide_eq_true (S.sub c hc);rw[e];exact k b d
 .by_cases i:∃x,v=.str x
  rotate_left
  .let{t,l,hk}:=Cj (K:=K) N.1 λz e=>i ⟨z,e⟩
   exact{1,_,_,_,false,rfl,l,hk,false,rfl,bH (k H (a7.refl _))}
  let{x,rfl}:=i
  let{nx,f}:=N.2 x rfl
  have a:x.9<=sizeLine:=aa ();refine{1,_,_,_,true,rfl,dE.str x,rfl,true,rfl,aC ?_}
  by_cases m:x.9<1
  .exact{1,x,rfl,a,_,1,rfl,true,congrArg V.bl (decide_eq_true ()),bH (k H (a7.refl _))}
  refine{1,x,rfl,a,_,1,rfl,false,congrArg V.bl (decide_eq_false ()),aC ?_}
  by_cases n:5<x.9
  .exact{1,x,rfl,a,_,1,rfl,true,congrArg V.bl (decide_eq_true ()),bH (k H (a7.refl _))}
  refine{1,x,rfl,a,_,1,rfl,false,congrArg V.bl (decide_eq_false ()),aC ?_};refine{2,x,g,rfl,(),λb d=>?_}
  have e:((ch x).all λc=>decide (c∈ch g))=false:=by
    rcases nx with q |q |⟨c,hc,hn⟩
    .exact absurd q m
    .exact absurd q n
    .cases o:((ch x).all λc=>decide (c∈ch g)) with
     |false=>rfl
     |true=>exact absurd (of_decide_eq_true (OD.mp o c hc)) hn
  rw[e];exact k b d
theorem nP(L:Lk K mg):aH P w K mg base dk 1 L.ip L.iu ["row","places"] (Dn K):=by
 refine L.iz.F.fG (N:=["row","places","cut"]) (λq A outer s H x Q E nd y h=>?_)
 let{r,a,ps,rfl,t,u,hl,k}:=h
 refine{_,(a0 (ah (i:=2) a9)
  (a0 (rO Sf (hO qc (cH k8 (0) (dF (2)) dD) (1) rfl) (a6 (qf (i:=2) nd rfl (Rv rfl) a9 yz)))
  (a6 (ai (cH k8 (0) (dF (2)) dD))))),?_}
 ac_rfl
 refine{λm σ c=>∃n:Nat,n<=r.9/\m=r.9-n/\σ=[ρ (.str r),ρ (.ref a),ρ (.int (n:Int))]/\a7 H c/\∀j,j<n->c4 r j∉ps,⟨r.9,0,OZ _,rfl,rfl,a7.refl _,λj d=>absurd d (R4 j)⟩,?_};rintro m σ c ⟨n,hn,rfl,rfl,f,o⟩;refine{3,r,rfl,aa (),1,a,1,.inl (f.seq t),rfl,hI ps,1,?_};rw[if_pos rfl,yg]
 by_cases h:c4 r n∈ps
 .have e:decide (OQ r (ρ (n:Int)) τ∈ps)=true:=decide_eq_true h;rw[e];refine aC ?_;refine{3,r,rfl,aa (),?_};have:=k c f;unfold lend at this;rw[sr h o hn]at this;exact this
 .have e:decide (OQ r (ρ (n:Int)) τ∈ps)=false:=decide_eq_false h;rw[e];refine bH ?_
  have g:n<r.9:=by
   rcases SQ hn with z |z
   .exact z
   .subst z;rw[hX]at h;exact absurd u h
  refine{λb p=>∃l:Nat,l=n+1/\b=[ρ (.str r),ρ (.ref a),ρ (.int (l:Int))]/\a7 H p,?_,?_}
  .rintro b p ⟨l,rfl,rfl,v⟩;refine{r.9-(n+1),(),n+1,g,rfl,rfl,v,λj d=>?_};rcases SQ (Nat.le_of_lt_succ d) with z |z
   .exact o j z
   .rw[z];exact h
  .exact{1,_,1,rfl,n+1,rfl,rfl,f}
theorem oq(L:Lk K mg):aH P w K mg base dk 1 L.jl L.jv ["ends","lot"] (AY K):=by
 have T:=L.T;refine L.jH.F.fG (N:=["ends","lot"]) (λm A outer s H u Q E nd v h=>?_)
 let{a,b,d,ls,rfl,i,n,o,p,hl,k}:=h
 refine{_,(a6 (ai (aD (my rfl) (by rfl) T.any Dm (aB (cJ rfl (bg ["lot"] [1]) (bP (0)) (λ_ _ _ _ _ _=>cf) (λ_ _ _ _ _ _=>(bO (u5 (K:=K) rfl) (0) (1) rfl))))))),?_}
 ac_rfl
 refine{1,a,rfl,{_,i},λl f=>comp_map (Fm ls) (cm K a d) f (aa ()) (λj g=>g.seq i) (λx r y hx t q=>?_) (λj g c=>?_)}
 .exact{2,b,ls,rfl,.inl (t.seq n),OD.mp o x hx,p,q r (a7.refl _)}
 .have e:d.map (Fm ls)=(d.map λe=>xO e ls).map V.bl:=by rw[OS];rfl
  rw[e]at c;refine{l,1,aK.of c,?_};have:=k j g;rw[Tl];exact this
theorem nQ(L:Lk K mg):aH P w K mg base dk 1 L.iq L.iw ["self"] (zf L.al):=by
 have T:=L.T;refine L.iA.F.fG (N:=["self"]) (λa A outer s H j Q E nd m h=>?_)
 let{x,g,n,ss,ls,rfl,B,k}:=h
 let{{c,b,d,q,o,e,p,f,i,r,t},_,_,_}:=B
 refine{_,(a6 (ai (aL (mB rfl) (by rfl) T.list vC (aB (cI (0) rfl))))),?_}
 ac_rfl
 refine{1,x,L.al,c,_,1,e,L.ax.cl,L.ax.fD,fB g b d q,d,1,f,λl hl=>?_};rw[iF,i];exact k l _ (a7.upd hl) hl a5
theorem dB(L:Lk K mg):aH P w K mg base dk 1 L.dY L.dZ ["self","place"] (Ic L.al):=by
 have T:=L.T;refine L.cg.F.fG (N:=["self","place"]) (λc A outer s H r Q E nd e h=>?_)
 let{x,p,g,t,ss,ls,rfl,B,f,k}:=h
 let{{i,b,d,q,mv,j,u,l,m,y,z},_,_,_}:=B
 let{a,ha,n}:=eQ (mv:=mv) (k:=p) (by rw[m];exact f)
 have o:=fO e;refine{_,(a6 (aG (PW.pt (cQ (aY (aN (aD cw (by rfl) T.vF jf (a4 (1) (aB (hM (v:=.ty "str") (by rfl) T.str kd rfl)))))) (cE (D4 (wG o (1) (cI (0) rfl)))))) cq aq)),?_}
 ac_rfl
 refine{1,_,_,_,true,rfl,dE.str p,rfl,true,rfl,aC ?_};refine{2,x,L.al,i,_,1,j,L.ax.cl,L.ax.fD,fB g b d q,d,1,eJ.k (k:=(Ou p:Key)) l,1,?_};rw[n];exact aC k
theorem eF(L:Lk K mg):aH P w K mg base dk 2 L.mV L.nk ["self","place","sign"] (FE L.al):=by
 refine L.ei.F.fG (N:=["self","place","sign"]) (λn A outer s H z Q E nd o h=>?_)
 let{x,p,c,g,r,ss,ls,rfl,B,e,hc,k}:=h
 let{{f,b,d,q,mv,i,C,t,u,v,D},_,_,_}:=id B
 let{a,ha,y}:=eQ (mv:=mv) (k:=p) (by rw[u];exact e)
 have j:=fO o
 refine{_,(a0 (cb (E4 (0) L.ax.cl L.cg (dB L) (aB (1))))
  (a6 (ai (d7 j (d7 j (cI (0) rfl) (1) (λ_ _=>rfl)) (2) (λ_ _=>rfl))))),?_}
 ac_rfl
 refine{1,x,f,1,i,B7 _ _ _ _ ∅ ∅ ∅ ∅,1,x,p,g,r,ss,ls,rfl,B,e,?_};have l:=eJ.k (k:=(Ou p:Key)) t;rw[y]at l;have m:=eJ.k (k:=(Ou ({#[c]}:Str):Key)) (v _ ha);rw[vG hc]at m;exact{1,x,L.al,f,_,1,i,L.ax.cl,L.ax.fD,fB g b d q,1,d,1,l,1,a,1,m,k}
theorem t8(L:Lk K mg):aH P w K mg base dk 1 L.mY L.nu ["thing"] yZ:=by
 have T:=L.T;refine L.nK.F.fG (N:=["thing"]) (λa A outer s H b Q E nd c h=>?_)
 let{i,rfl,k}:=h
 refine{_,(a6 (ai (gz (aD cw (by rfl) T.vF jf (a4 (0) (aB (hM (v:=.ty "int") (by rfl) T.int yY rfl)))) (k7 (D5 (aD cw (by rfl) T.vF jf (a4 (0) (aB (hM (v:=.ty "bool") (by rfl) T.bool Fo rfl))))))))),?_}
 ac_rfl
 refine{1,_,_,_,true,rfl,dE.int i,rfl,true,rfl,bH ?_};exact{1,_,_,_,false,rfl,dE.int i,rfl,false,rfl,k}
theorem gb(L:Lk K mg):aH P w K mg base dk 3 L.gP L.gV ["band","place","sign","counts"] (x8 L.al):=by
 refine L.eh.F.fG (N:=["band","place","sign","counts","end"]) (λl A outer s H z Q E nd m h=>?_)
 let{x,o,p,c,n,g,a,ss,ls,rfl,B,r,hc,hd,k}:=h
 have t:=fO m
 refine{_,(a0 (ah (i:=4) (E4 (0) L.ax.cl L.ei (eF L) (a4 (1) (aB (2)))))
  (a6 (ai (rN (bE mr (4) cU) a9 (d7 t (3) (4) (λ_ _=>rfl)))))),?_}
 ac_rfl
 have u:("":Str)∈ss:=B.pm.mem_iff.mpr (bt a)
 let{{v,b,d,q,C,y,D,G,I,J,M},_,_,_}:=id B
 refine{1,x,v,1,y,B7 _ _ _ _ ∅ ∅ ∅ ∅,2,x,p,c,g,a,ss,ls,rfl,B,r,hc,?_};unfold E3 at k
 cases f:bears a (p++⟨#[c]⟩) with
 |true=>
  have e:lZ a ss p c=.non:=by unfold lZ;rw[f];rfl
  rw[e];rw[f]at k;exact{_,rfl,rfl,true,rfl,bH k}
 |false=>
  have e:lZ a ss p c=.str (lend ss (p++{#[c]})):=by unfold lZ;rw[f];rfl
  rw[e];rw[f]at k;have j:=eJ.k (k:=(Ou (lend ss (p++{#[c]})):Key)) hd;rw[gq _ (gH u _)]at j;exact{1,rfl,false,rfl,aC {_,rfl,1,o,1,j,k}}
theorem fo(L:Lk K mg):aH P w K mg base dk 1 L.du L.fX ["self"] (Bg L.bp):=by
 refine L.dz.F.fG (N:=["self"]) (λb A outer s H d Q E nd f h=>?_)
 let{x,a,rfl,hx,k}:=h
 refine{_,(a0 (gA (0) cU rfl)
  (a6 (gA (0) cU rfl))),?_}
 ac_rfl
 refine{1,x,L.bp,a,[],rfl,hx,L.bR.cl,L.bR.mN,(show 0<1000 by decide),?_};rw[Ft];refine{1,x,L.bp,a,1,a5,L.bR.cl,L.bR.mM,(show 1<1000 by decide),?_};rw[Fu];exact k _ (λc o e n=>by rw[a8 n,a8 n];exact e) a5
theorem dI(L:Lk K mg):aH P w K mg base dk 1 L.kQ L.lh ["_law_script","_law_place"] (Ds K):=by
 have T:=L.T;refine L.di.F.fG (N:=["_law_script","_law_place"]) (λd A outer s H i Q E nd l h=>?_)
 let{a,ns,p,rfl,c,m,k}:=h
 refine{_,(a0 (aG (bE C9 (1) (Aa T.len (0))) (a6 (ai a9)) aq)
  (a6 (ai (aF aM (0) (1) (λ_ _=>rfl))))),?_}
 ac_rfl
 refine{2,a,1,.inl c,_,1,rfl,1,?_};rw[O5]
 by_cases h:(ns.9:Int)<=p
 .refine Et (by simpa using h) ?_
  have e:dR ns p=0:=by
   delta dR;rw[Q9,List.getElem?_eq_none 1.0];rfl
  rw[e]at k;exact k
 .refine y3 (by simpa using h) ?_;have b:p.toNat<ns.9:=1.0
  have f:ns[p.toNat]?=ρ (dR ns p):=by
   delta dR;rw[Q9];simp[b]
  have g:iY (ns.map V.int) p=ρ (.int (dR ns p)):=by
   have:=aw (xs:=ns.map V.int) (j:=p.toNat) (v:=.int (dR ns p)) (by rw[OC,f];rfl);rwa[show ((p.toNat:Nat):Int)=p by omega]at this
  exact{2,a,_,_,1,rfl,c,g,k}
end
section
variable{w:World}{K K:O4}{CD CB CN CR CE CS CT CW CX:Addr}{H H':Hp}{x dx:Addr}{Q:VK}{E:XK}
theorem rj{z:Str}{vs:List Str}{r:Str}{v:V}(hx:H x=ρ (ke CD dx v))(l:r=P6 SP ("band" :: z::vs))(o:∀p∈z::vs,32∉ch p)(t:r.9<=1000)(C:vs.9<=100)
 (h:(sx z/\z.9<=100/\∀H',a7 H H'->kJ K CX Q (.ref CS) τ H')\/(bZ z/\vs.9<=100/\(∀w∈vs,bJ z w\/(fP z w/\w.9<=100))/\((6<vs.9/\eT CT "many" vs.length H (kJ K CX Q))\/(vs.9<=6/\∃i w,vs[i]?=ρ w/\fP z w/\w.9<=100/\(∀(j:Nat) y,j<i->vs[j]?=ρ y->bJ z y)/\eT CW "number" (i:Nat) H (kJ K CX Q))))):m6 K CD CB CN CR CE CS CT CW CX [.ref x,.str r] H Q E:=
 {x,dx,v,r,"band" :: z::vs,rfl,hx,l,λp a=>by
   rcases Oi.mp a with rfl |a
   .decide+kernel
   .exact o p a,t,by rw[Ov,Ov];omega,.bno z vs rfl h}
end
section
variable{K K:O4}{CD CB CN CR CE CS CT CW CX:Addr}{H:Hp}{x dx xb:Addr}{g:Str}{ws ss ls:List Str}{Q:VK}{E:XK}
theorem dG.FQ(A:dG CD CB H x dx xb g ws ss ls){r z:Str}(j:z=("number ":Str)++r)(o:r.9<=900)(l:32∉ch r)(h:(∃n,wK g r/\Bad ws r n/\nX CE "length" (.int ((n:Nat)+1)) H (kJ K CX Q))\/(∃i,Out g r i/\nX CR "number" (.int (i:Nat)) H (kJ K CX Q))):m6 K CD CB CN CR CE CS CT CW CX [.ref x,.str z] H Q E:=by
 subst j;refine{x,dx,_,_,["number",r],rfl,A.hx,rfl,pw ∅ l,?_,(show 2<=1000 by decide),A.say (.inr (.inr (.inr {r,rfl,rfl,1.0,.inr h})))};rw[len_app];show 7+_<=_;omega
end
end K60
namespace _L
open PySem.Spec PyProof.Rows Builtin Builtin.ObjectAttr
theorem aT.ne{K:O4}{C D CB j:Addr}{nm g:Str}(U:aT K C CB nm)(l:aT K D j g)(h:¬nm=g):C≠D:=λe=>by
 subst e
 let{q,N,bs,s,sub,t,d,u,v,w,x,y,z,f}:=U.lk
 let{A,B,i,k,b,m,c,n,E,p,G,H,I,a}:=l.lk
 rw[f]at a;have:=congrArg (λo=>match o with |some (⟨_,_,.cls r,_⟩:Obj)=>r.name |_=>nm) a;exact h this
theorem aT.neT{K:O4}{C CB g:Addr}{nm j:Str}(U:aT K C CB nm)(T:zy K g j)(h:¬nm=j):C≠g:=λe=>by
 subst e
 let{q,N,bs,s,sub,t,d,u,v,w,x,y,z,f}:=U.lk
 let{A,B,i,k,l,b,m,c,n,D,p,E,G,H,a}:=T.lk
 rw[f]at a;have:=congrArg (λo=>match o with |some (⟨_,_,.cls r,_⟩:Obj)=>r.name |_=>nm) a;exact h this
def FR(K:O4)(ta:TE)(f:Str):TE:=λσ H Q=>ta σ H λy H1=>∃e C CB d nm fs v,y=.ref e/\H1 e=ρ (XC e C (ρ d))/\H1 d=ρ (.xd fs)/\aT K C CB nm/\findIn K (.ref C) f=ρ τ/\fs.lookup f=ρ v/\Q v H1
section
variable{prog:Om}{w:World}{A:Around}{E:Value->Shared->Prop}{s:Shared}{K:O4}{x C CB:Addr}{nm:Str}{od:Option Addr}
theorem xF{Q:Option Value->Shared->Prop}(U:aT K C CB nm)(Y:nZ K C)(X:K.In s.heap)(I:ExcAt x C od s.heap)(h:Q (ρ (.ref C)) {s with toks:=s.toks+1}):wpAny (model prog w) A (getAttr? (.ref x) "__class__") Q E s:=by
 let{ox,o,I}:=I.inst
 let{q,N,bs,k,sub,l,c,m,n,p,r,t,u,lk}:=U.lk
 have hc:∃b,clsIn K C=ρ b:={_,by unfold clsIn;rw[lk]};have d:mroIn K C (.type "object")=ρ true:=by unfold mroIn clsIn;rw[lk];rfl
 have a:mroIn K C (.type "BaseException")=ρ true:=by unfold mroIn clsIn;rw[lk];rfl
 have G:=SZ.ga
 have f:findObj K C o "__class__"=ρ (.bind (.builtin "getset_descriptor.__get__") (.builtin "object.__class__")):=by
  let{b,hc}:=hc
  unfold findObj;rw[hc,Y.ha];simp only[Rn];rw[Y.hn];simp only[Rn];rw[Y.xP];rfl
 unfold getAttr? getAttrBy? getAttrBy;refine O6 (wpAny_mkText (O6 (UG (Qq (O6 (I.type _ _ _ _ (λ_ _ e=>e) (O6 (Rl X U.ga _ _ _ _ (λ_ _ e=>e) ?_))))))));dsimp only;rw[show (RB (Oh C)&&Qa "BaseException.__getattribute__" == Qa "object.__getattribute__")=false from by rw[show (Qa "BaseException.__getattribute__" == Qa "object.__getattribute__")=false from by decide+kernel,RD],if_neg ⋯];have g:Looks (model prog w) s.heap (hookBefore (.ref C)) τ:=looks_hook X (by show (if RB (Oh C) then findIn K (.ref C) "__getattr__" else ρ τ)=ρ τ;rw[if_pos (show RB (Oh C)=true from rfl)];exact U.gh);refine O6 (g _ _ _ _ (λ_ _ e=>e) (O6 (UG (Qq ?_))));unfold callGetattribute;rw[show (false&&RB (Qa "BaseException.__getattribute__"))=false from rfl,if_neg ⋯];unfold boundAndCalled;rw[G.bind];refine O6 (Oo ?_);show wpAny _ _ (call (.builtin "BaseException.__getattribute__") [.ref x,.str "__class__" s.toks]) _ _ _;refine Qw ?_;have sub:Looks (model prog w) s.heap (Ti (.ref x) (.type "BaseException")) true:=I.type.andThen (U9 X a);refine QG G.plain Up ?_;refine @UQ (model prog w) _ _ {s with toks:=s.toks+1} "BaseException.__getattribute__" "BaseException" "__getattribute__" (.ref x) [.str "__class__" s.toks] [] _ ∅ ∅ sub (Uz (.ref x) (.str "__class__" s.toks)) ?_;have i:=I.type (M:=model prog w);have j:=looks_find (M:=model prog w) X I f;unfold RQ.«object.__getattribute__»;refine O6 (Oo ?_);refine O6 (Oo (O6 (i _ _ _ _ (λ_ _ e=>e) (O6 (j _ _ _ _ (λ_ _ e=>e) ?_)))));show wpAny _ _ (holding [.builtin "object.__class__"] (call (.builtin "getset_descriptor.__get__") [.builtin "object.__class__",.ref x,.ref C]) >>= ret) _ _ _;refine O6 (Qq (Qw (class_get (s:={s with toks:=s.toks+1}) (ox:=ox) (od:=o) X I d ?_)));refine Oo ?_;exact handed_on rfl (Oo h)
theorem t9(U:aT K C CB nm)(Y:nZ K C):KitX K (.ref x) (.ref C) (ExcAt x C od) where
 ty:=λM h X I=>by
  let{s,o,I}:=I.inst
  exact I.type
 it:=λM h X I=>by
  let{q,N,bs,c,sub,d,a,f,g,i,j,l,m,lk}:=U.lk
  intro t u v w k q;unfold isType loadHead;exact O6 (Uh (k _ _ (X _ _ lk)) (Oo q))
 ne:=λh tp p r n sl X b=>by
  let{q,N,bs,c,sub,d,a,f,g,i,j,l,m,lk}:=U.lk
  refine Vv.mpr λq=>?_;have e:C=tp:=Value.ref.inj (beq_iff_eq.mp q);subst e;have z:=congrArg (λo=>o.map (·.cls)) ((X _ _ lk).symm.trans b);simp at z
 ca:=λX I k=>xF U Y X I k
end
section
variable{X:Cx}
set_option genInjectivity true in
inductive A0(K:O4)(H:Hp):V->V->Bool->Prop where
 |exc {e C CB:Addr} {od:Option Addr} {nm:Str} {D:Addr} {b:Bool} (h:H e=ρ (XC e C od)) (hd:∀d,od=ρ d->∃fs,H d=ρ (.xd fs)) (U:aT K C CB nm) (Y:nZ K C) (k:kitOne K (.ref C) (.ref D)=ρ b):A0 K H (.ref e) (.ref D) b
 |val {e C CB:Addr} {od:Option Addr} {nm:Str} {T:String} {b:Bool} (h:H e=ρ (XC e C od)) (hd:∀d,od=ρ d->∃fs,H d=ρ (.xd fs)) (U:aT K C CB nm) (Y:nZ K C) (k:kitOne K (.ref C) (.type T)=ρ b):A0 K H (.ref e) (.ty T) b
 |oth {x:V} {t:Value} {D:Addr} {b:Bool} (h:dE K H x t) (k:kitOne K t (.ref D)=ρ b):A0 K H x (.ref D) b
 |otb {x:V} {t:Value} {T:String} {b:Bool} (h:dE K H x t) (k:kitOne K t (.type T)=ρ b):A0 K H x (.ty T) b
theorem cy:cP X (.builtin "isinstance") (λxs H Q=>∃x c b,xs=[x,c]/\A0 X.K H x c b/\Q (.bl b) H):=by
 intro j s σ H xs v Q I r h
 let{x,c,b,rfl,l,q}:=h
 let{u,w,rfl,f,g}:=vals2 r
 have at_:∀{e C:Addr} {i:Option Addr},H e=ρ (XC e C i)->(∀d,i=ρ d->∃fs,H d=ρ (.xd fs))->ExcAt e C i s.heap:=λ{e C i} h hd=>by
  let{{m,sl,n},_}:=I.aI e _ h
  refine{⟨m,sl,n⟩,λd e=>?_}
  let{fs,p}:=hd d e
  let{y,{o,_,_,t,_},_}:=I.aI d _ p
  exact⟨o,t⟩
 cases l with
 |exc h hd U Y k=>
  cases f;cases g;exact kia_one (t9 U Y) I.dC (at_ h hd) k (λz=>nomatch z) λa=>{.bl b,H,I.tok a,rfl,q}
 |val h hd U Y k=>
  cases f;cases g;exact kia_one (t9 U Y) I.dC (at_ h hd) k (λz=>nomatch z) λa=>{.bl b,H,I.tok a,rfl,q}
 |oth h k=>
  cases g;exact k9 I f h k λa=>{.bl b,H,I.tok a,rfl,q}
 |otb h k=>
  cases g;exact k9 I f h k λa=>{.bl b,H,I.tok a,rfl,q}
theorem m8(he:PE X e j)(l:QX e f X.env (eval e X.5)=eval e X.5):PE X (.Attribute e f pos) (FR X.K j f):=by
 refine{?_};intro a s σ H Q I h;refine vx l (bb (he a s σ H _ I h) λu G ⟨y,i,b,k,e,C,CB,d,m,fs,v,n,p,t,U,ha,hl,q⟩=>?_);subst n;obtain rfl:u=Oh e:=k
 let{{w,sl,x},_}:=b.aI e _ p
 let{z,ns,r}:=b.aI d _ t
 let{o,hd,look}:=oS ns
 let{A,N,bs,B,sub,D,c,J,L,M,O,R,S,lk}:=U.lk
 let{T,E,g}:=gd.lN (v:=v) (o:=z f) (by rw[<-hl];exact r f)
 refine zx (CB:=CB) (ox:={.ref C,ρ d,.fields w,sl}) (od:=o) b.dC ⟨x,rfl,rfl,hd⟩ (cd:={name:=m,bases:=bs,mro:=.ref C::m5 CB,ns:=N,qualname:=A,hasDict:=true,slotNames:=B,subclasses:=sub,abstract:=D,collection:=c,hasDel:=false}) (by unfold clsIn;rw[lk]) rfl rfl U.ga U.gh ha (by rw[look,E]) (oG g) ?_;exact{v,i,b.tok _,g,q}
end
section
variable{K:O4}{C CB D:Addr}{nm Gy Gr:Str}
theorem aT.cls(V:aT K D CB Gy):(clsIn K D).isSome=true/\typeIn K (.ref D)=ρ (.type "type"):=by
 let{h,i,d,e,b,f,c,g,j,k,l,m,n,a}:=V.lk
 refine{by unfold clsIn;rw[a];rfl,?_};show Option.map (λx=>x.cls) (K.lookup D)=ρ (.type "type");rw[a];rfl
theorem A2(U:aT K C CB nm)(V:aT K D CB Gy)(T:zy K CB Gr)(g:¬Gy=Gr)(e:¬nm=Gy):kitOne K (.ref C) (.ref D)=ρ false:=by
 unfold kitOne;have ne:=U.ne V e;rw[if_neg (by simpa using ne)]
 let{q,N,bs,h,sub,i,a,j,k,l,m,n,o,lk}:=U.lk
 let{b,c}:=V.cls
 unfold kitCls;dsimp only;rw[b,c,if_pos (by rfl)];unfold subIn mroIn clsIn;dsimp only;rw[lk];show ρ ((Oh C::m5 CB).contains (.ref D))=ρ false;have d:(Oh D==Oh C)=false:=by simpa using Pz ne
 have f:(Oh D==Oh CB)=false:=by simpa using V.neT T g
 simp only[Ve,d,f,SU];rfl
end
end _L
namespace _L
open PySem.Spec PyProof.Rows
section
variable{X:Cx}{tg:Expr}
theorem uR{P:Om}{w:World}{K:O4}{j:List Expr}{k:Nat}{pos:Pos}(z:Str)(t:Tok)(nm:String)(e it:Addr)(g:e≠it)
 (D:∀A:Around,A.handled=τ->Draws P w A it [it] z.cps.size (λi v=>∃c u,z.cps[i]?=ρ c/\v=.str {#[c]} u) (λi h=>h.IsStrIter it nm z t i)) :
 Turn P w K (.Tuple j k pos) (y4 z) [e,it] e (λi h=>((∃old,IsEnum h e it (i:Nat) old)/\h.IsStrIter it nm z t i)/\i<=z.cps.size) where
 mem:=by simp
 obj:=λi h st b f=>by
  let{{{old,a},o,l,hc,hd},_}:=st
  rcases Oi.mp f with rfl |f
  .exact{_,a,λv z=>by
    have T:Vy _=VZ v:=z
    cases T}
  .have B:b=it:=by simpa using f
   subst B;exact{o,l,λv z=>by rw[hd]at z;cases z}
 keep:=λi h R st k=>{{st.1.1.imp λold a=>k e (by simp) _ a,let ⟨o,l,r⟩:=st.1.2;{o,k it (by simp) o l,r}},st.2}
 item:=by
  intro X C hw G hc i m s σ H E I J st L;subst C hw G
  let{{{old,a},hit},_}:=st
  have n:i<z.cps.size:=L;refine wpAny_pyNext_enum_itemD (D X.A.in1 (I.ok.hd hc)) a hit n g (by simpa using g) λu R U V l p Y Z hk=>?_
  let{c,S,M,rfl}:=V
  have ru:RelV (oP z i) (.str {#[c]} S):={S,by
   rw[Qx,M]
   rfl}
  refine{1,SX l λNy N d=>?_}
  let{_,O,_}:=id hit
  have x:e<s.8:=Oa a
  let{fr,I1,hn}:=rR (y:=.int (i:Nat)) (U+1) I J (λb o h q=>(d.2 b (wg h).1).trans (hk b o (wg h).1 (wg h).2 q)) ((d.2 _ (Py x)).trans Y) {_,rfl} ru (Es x (Oa O))
  let{o,Q,r}:=p
  exact{.ref s.8,_,I1,rfl,⟨s.8,fr,rfl,rfl⟩,{{{_,by simpa using N},{o,(d.2 it (Pz g)).trans Q,r}},n},hn}
 done:=by
   intro X C hw G hc i m s σ H E I J st L;subst C hw G
   let{{{old,a},hit},hle}:=st
   have EK:z.cps.size<=i:=L;have B:i=z.cps.size:=();subst B
   let{g0,g1,g2,g3,g4,g5}:=J it (by simp)
   exact wpAny_pyNext_enum_endD (D X.A.in1 (I.ok.hd hc)) a hit λR eb=>{rfl,I.turned (t':=s.toks) (λb o f e=>eb b o f e) g0 g1 g3 g4 g5}
 self:=λ_ _ _ _ _ st h=>let ⟨⟨⟨_,a⟩,_⟩,_⟩:=st;RJ a h
theorem nR{g:List Expr}{k:Nat}{j:Pos}{l:Expr}{C:TA}{p pos:Pos}(J:Gl X "enumerate")(T:X.mg "enumerate"=τ)(ha:PA X [l] C)(U:starEach [l] X.5=[(false,eval l X.5)]:=by rfl) :
 PI X (.Tuple g k j) (.Call (.Name "enumerate" p) [l] [] pos) (CI C):=by
 refine{?_};intro d s σ H R I h;refine Call_ (iI I J T fM (Q6 (bb (ha pos d s σ H _ I h) λQ a ⟨S,B,o,G,L⟩=>?_) U rfl))
 let{z,e,q}:=L
 subst e
 let{u,rfl,t,rfl}:=vals1 G
 refine call_enumerate_str λr E hit M kp=>RJ E ?_;have N:Inv X d σ B {a with heap:=r}:=o.kept (t':=a.toks) kp
 have fin:∀n,(∀A:Around,A.handled=τ->Draws X.prog X.w A a.heap.objs.size [a.8] z.cps.size (λi v=>∃c u,z.cps[i]?=ρ c/\v=.str {#[c]} u) (λi h=>h.IsStrIter a.heap.objs.size n z t i)) ->
  r.IsStrIter a.heap.objs.size n z t 0->EV X d σ (.Tuple g k j) R (.ref (a.8+1)) {a with heap:=r}:=by
  intro n D f;refine{a.8+1,[a.8+1,a.8],_,_,B,rfl,N,uR z t n _ _ (Py (Qt _)) D,{{{_,E},f},OZ _},λb x=>?_,q}
  have m:a.8<=b:=by
   rcases Oi.mp x with rfl |x
   .exact PX _
   .have O:b=a.8:=by simpa using x
    subst O;exact Ob _
  exact o.wt m (o.aI.fresh m)
 cases ha:z.cps.all (· < 128)
 .exact fin "str_iterator" (λA y=>Draws.strWide y _ z t) (by simpa [strIterType,ha] using hit)
 .exact fin "str_ascii_iterator" (λA y=>Draws.strAscii y _ z t) (by simpa [strIterType,ha] using hit)
theorem DP(I:Inv X g σ H s)(h:H a=ρ (.dK [])):∃o ep,s.heap.get? a=ρ o/\o.cls=.type "dict"/\o.data=.dict #[] ep/\(a==Q8)=false:=by
 let{_,e,m,rel,o,c,ep,f,i,j,k}:=(show b6 X.prog X.w H s.heap a (.dK []) from I.aI a _ h)
 cases rel;have d:=k.2.1
 have:c=#[]:=RP.mp (by
  cases l:c.toList with
  |nil=>rfl
  |cons a b=>rw[l]at d;cases d)
 subst this;exact⟨o,ep,f,i.1,j,e⟩
theorem xG{P:Om}{w:World}{K:O4}{T:Expr}(d it:Addr)(o:Obj)(kvs:List (Key×V))(U:Array DictEntry)(ep:Nat)(J:o.data=.dict U ep):Turn P w K T (EE d o kvs) [it] it (λi h=>h.IsKeyIter it d i kvs.length ep) where
 mem:=by simp
 obj:=λi h st b f=>by
  have e:b=it:=by simpa using f
  subst e
  let{o,e,c,p}:=st
  exact{o,e,λv z=>by rw[p]at z;cases z}
 keep:=λi h m st k=>st.at λo e=>k it (by simp) o e
 item:=by
  intro X q hw r hc i a s σ H E I n st u;subst q hw r
  let{x,hi}:=u
  let{G,rel,g}:=u6 I x J
  have hx:kvs[i]?=ρ kvs[i]:=by simp[hi]
  let{{k,v},L,M,_}:=z9 rel hx
  let{A,f1,f2,B,C,D}:=n it (by simp)
  rw[rel.9]at st;refine wpAny_pyNext_dict_item st g L λkey m l j N=>?_;have O:Inv X a σ H {s with heap:=m}:=I.turned (t':=s.toks) (λb o f e=>(N.2 b f).trans e) A f1 B C D
  let{S,e,c,p}:=id j
  rw[<-rel.9]at j;refine{key,rfl,uW (s:={s with heap:=m}) e c p ⋯ {kV kvs[i].1,H,O,?_,{rfl,_,hx,rfl},j,λb f=>(n b f).1}};have Q:kvs[i].1=k:=M;rw[Q];rcases b0 l with⟨i,t,rfl,rfl⟩ |⟨y,t,rfl,rfl⟩
  .exact⟨t,rfl⟩
  .exact⟨t,rfl⟩
 done:=by
   intro X q hw r hc i a s σ H E I n st u;subst q hw r
   let{x,hi}:=u
   let{G,rel,g}:=u6 I x J
   let{A,f1,f2,B,C,D}:=n it (by simp)
   rw[rel.9]at st hi;exact wpAny_pyNext_dict_end (I.ok.hd hc) st g (by simp;omega) λm R=>{rfl,I.turned (t':=s.toks) (λb o f e=>R b o f e) A f1 B C D}
 self:=λ_ _ _ _ _ st h=>wpAny_pyIter_keyiter st h
theorem vZ{l:Expr}{p:TE}(hl:PE X l p):PI X tg l (EF p):=by
 refine{?_};intro a s σ H R I h;refine bb (hl a s σ H _ I h) λv g ⟨x,D,m,t,j⟩=>?_
 let{d,f,e,q}:=j
 subst e;cases t
 have key:∀{i:Hp} {o:Obj},Inv X a σ i g->i d=ρ (.frz o (.dK f))->R (EE d o f) i->wpAny (model X.prog X.w) X.A (pyIter (.ref d)) (EV X a σ tg R) X.xe g:=λ{i o} c hd u=>by
  let{E,lo,y,n,G,z,B,j,J,r,L}:=p0 c.aI (.inr ⟨o,hd⟩)
  let{C,_}:=c.aI d _ hd
  rw[C]at j;cases j
  let{M,rel,k}:=u6 c hd r
  refine wpAny_pyIter_dict lo k ?_;refine{g.8,[g.8],_,_,i,rfl,c.kept (t':=g.toks) λb o e=>O9 _ e,xG d _ o f z B r,{_,Oq _ rfl,rfl,by rw[rel.9];rfl},λb N=>?_,u};have e:b=g.8:=by grind
  subst e;exact c.wt (Ob _) (c.aI.fresh (Ob _))
 rcases q with⟨hd,q⟩ |⟨o,hd,q⟩
 .let{o,O,c}:=m.freeze hd
  exact key c a5 (q o)
 .exact key m hd q
theorem tj{M:TK}{A:Around}{E:Value->Shared->Prop}{s:Shared}{scope:Qr}{globals:Addr}{g:List (Str×Addr)}{j x:Str}{outer:Env}{Q:Env->Shared->Prop}
 (l:scope.names.filter (·.2 == .cell)=[(x,.cell)])
 (p:∀h',h'.Ns s.heap.objs.size (λ_=>τ)->h'.IsCell (s.8+1) τ->(∀b o,s.heap.get? b=ρ o->h'.get? b=ρ o) ->
   Q (newEnv scope s.heap.objs.size globals ((x,s.8+1)::g) j τ .none (ρ outer) Ut) {s with heap:=h'}) :
 wpAny M A (Sz scope globals g [] j τ .none (ρ outer)) Q E s:=by
 simp only[Sz,V4,if_true];refine O6 (wpAny_alloc ?_);refine O6 (wpAny_layCells _ (λname kind a=>by cases c:kind==Ph<;>simp[c]) _ _ _ _ ?_);rw[cS,cT,l];rw[List.forIn_nil];refine O6 (Oo (Oo ?_));have d:(s.heap.push {cls:=.type "dict",data:=.dict #[]}).7=s.8+1:=Q0 ..;have:=p ((s.heap.push {cls:=.type "dict",data:=.dict #[]}).push {cls:=.type "cell",data:=.cell τ}) ((Heap.Ns.new s.heap (.type "dict")).keeps λb o e=>O9 _ e) {_,by rw[<-d];exact Oq _ rfl,rfl} (λb o e=>O9 _ (O9 _ e));rw[<-d]at this;exact this
end
section
variable{X:Cx}{pins:List (Addr×Obj)}{σ:St}{H:Hp}{s₂:Shared}{scope:Qr}{x:Str}{ys:List Str}{ix:List Nat}{cl:List (Str×Addr)}{fp:List Addr}{L:Addr}
theorem xH{m₁:Str->Option Value}(B:mS X scope x ys ix)(I:Inv X pins σ H s₂)(hf:∀b∈fp,ib X pins H b)(U:∀b∈fp,b<s₂.8)(T:s₂.8<=L)
 (t:∀y c,cl.lookup y=ρ c->X.env.cells.lookup y=ρ c) (C:∀y∈scope.names,y.2=.free->∃c,cl.lookup y.1=ρ c)
 (kp:∀b o,s₂.heap.get? b=ρ o->g.get? b=ρ o) (LN:g.Ns L m₁) (LO:g.IsCell (L+1) τ) (hl:l=s₂.8) (J:l<L) (ho:g.get? l=ρ {cls:=.type "list",data:=.seq ([]:List Value).toArray n₀}) :
 Inv (bx X scope x (x::ys) cl L s₂ H fp (X.pn++pins)) [] (τ::pick σ ix) (upd H l (.lst [])) {s₂ with heap:=g,toks:=tk}:=by
 subst hl;have Q:=I.aI.fresh (Ob s₂.8);have E:x∉ys:=(Qg.mp B.nd).1;refine{zv B I hf U T t C,rfl,I.bare,Un.laid kp (Ob _) Q,{m₁,LN,λi y v R N e3=>?_},λy c e=>?_,?_,λy c e=>?_,λp O=>?_,I.aI.laid kp (Ob _) {OZ _,[],n₀,.nil,ho},?_}
 .cases i with
  |zero=>cases N
  |succ j=>
  have s:ys[j]?=ρ y:=R
  let{i,hi,S,hk,a}:=B.slots j y s
  have f:(σ[i]?).join=ρ v:=by
   have:(pick σ ix)[j]?=ρ (ρ v):=N;unfold pick at this;rw[OC,hi]at this;exact Oc this
  have w:σ[i]?=ρ (ρ v):=by
   cases q:σ[i]? with
   |none=>rw[q]at f;cases f
   |some z=>rw[q]at f;rw[show z=ρ v from f]
  let{m,hn,G}:=I.loc
  have M:Cz X.env.scope y:=.inr (hk.imp id id)
  let{u,r,l}:=G i y v S w M
  refine{u,r,.inr {gn a,?_}};rcases l with⟨k,_⟩ |⟨_,c,hc,h⟩
  .have D:X.env.scope.names.lookup y=ρ .local:=k;rcases hk with z |z
   .rw[z]at D;cases D
   .rw[z]at D;cases D
  .let{V,A}:=C (y,.free) (PH a) rfl
   have:=t y V A;rw[hc]at this;cases this
   let{o,q,d}:=h
   exact{c,rS (λz=>E (z ▸ Ox s)) A,o,kp c o q,d}
 .rcases dQ e with⟨_,rfl⟩ |⟨_,e⟩
  .exact{_,LO}
  .let{v,o,q,d}:=I.cell y c (t y c e)
   exact{v,o,kp c o q,d}
 .show upd H s₂.heap.objs.size (.lst []) L=τ;rw[a8 (Py J)];exact I.aI.fresh T
 .rcases dQ e with⟨_,rfl⟩ |⟨_,e⟩
  .rw[a8 (Py (T6 J))];exact I.aI.fresh (Od T (PX L))
  .let{v,o,q,d}:=I.cell y c (t y c e)
   rw[a8 (Oe (Oa q))];exact I.da y c (t y c e)
 .rw[Pq]at O
  let{q,n,ne,Y,d}:=I.pin p O
  have lt:=Oa q;refine{kp _ _ q,by rw[a8 (Oe lt)];exact n,Oe (O7 lt T),λZ=>?_,d};rcases Oi.mp (I.gr p.1 Z) with z |z
  .exact ne z
  .exact Y z
 .simp[pick,B.len,bx,aX]
theorem uS{tn:Nat->Heap->Prop}{Qd:Addr->Hp->Prop}{RR:Value->Addr->S1->Shared->Prop}{E:Value->Shared->Prop}{J:It}{it:Addr}{ifs:List Expr}{iter elt:Expr}{tt:TT}{te:TE}{px pos:Pos}
 (hc:X.calm=true) (B:mS X scope x ys ix) (I:Inv X pins σ H s₂) (T:Turn X.prog X.w X.K (.Name x px) J fp it tn) (Fb:tn 0 s₂.heap) (hf:∀b∈fp,ib X pins H b)
 (C7:∀y c,cl.lookup y=ρ c->X.env.cells.lookup y=ρ c) (HN:∀y∈scope.names,y.2=.free->∃c,cl.lookup y.1=ρ c)
 (ht:∀L s H ex pn,AF (bx X scope x (x::ys) cl L s H ex pn) ifs tt) (he:∀L s H ex pn,PE (bx X scope x (x::ys) cl L s H ex pn) elt te)
 (hw:∀l,H l=τ->j2 J l (pick σ ix) tt te H (Qd l))
 (HP:∀D L U s' m,Inv X pins σ U s'->s'.heap.Ns L m->U L=τ->L≠X.env.locals->X.s₀.8<=L->(∀y c,X.env.cells.lookup y=ρ c->c≠L)->(∀p∈X.pn++pins,p.1≠L)->Qd D U->RR (.ref D) L (.ok .next) s') :
 wpAny (model X.prog X.w) X.A (newList []) (λacc t=>wpAny (model X.prog X.w) X.A (Sz scope X.env.globals cl [] X.env.qual τ .none (ρ X.5)) (λyM s₄=>
  codeAny (model X.prog X.w) X.A (.compStart (.ListComp elt [⟨.Name x px,iter,ifs,0⟩] scope pos) 0 (.ref it) acc {yM with scope:=relabel scope X.5}) (RR acc yM.locals) s₄) E t) E s₂:=by
 refine T3 (tj B.one (λG g h j=>?_));dsimp only at g h j ⊢;generalize Q:s₂.heap.push {cls:=.type "list",dict:=τ,data:=.seq ([]:List Value).toArray}=k at g h j ⊢;have hC:k.7=s₂.8+1:=by rw[<-Q,Q0]
 have Fc:s₂.8<k.7:=by rw[hC];exact Qt _
 have a:s₂.8<=k.7:=Rw Fc;have old:∀b o,s₂.heap.get? b=ρ o->G.get? b=ρ o:=λb o e=>j b o (Q ▸ O9 _ e);have Dg:G.get? s₂.8=ρ {cls:=.type "list",data:=.seq ([]:List Value).toArray}:=j _ _ (Q ▸ Oq _ rfl);have N:∀b∈fp,b<s₂.8:=λb f=>let ⟨o,e,_⟩:=T.obj 0 _ Fb b f;Oa e
 have Fd:tn 0 G:=T.keep 0 _ _ Fb λb _ o e=>old b o e
 let{W,{m0,w0},turn}:=hw s₂.heap.objs.size (I.aI.fresh (Ob _))
 have O:∀t:Shared,t={s₂ with heap:=G} ->
  codeAny (model X.prog X.w) X.A (.compLoop (.ListComp elt [⟨.Name x px,iter,ifs,0⟩] scope pos) 0 (.ref it) (.ref s₂.8) (compEnvC scope ((x,k.7+1)::cl) k.objs.size X.5))
   (RR (.ref s₂.8) k.7) t:=by
  rintro t rfl;have I0:=xH (tk:=s₂.toks) (n₀:=0) (m₁:=_) (L:=k.7) B I hf N a C7 HN old g h rfl Fc Dg
  refine pj (env:=compEnvC scope ((x,k.7+1)::cl) k.objs.size X.5)
   (λn s'=>∃i C v0 U,Inv (bx X scope x (x::ys) cl k.objs.size s₂ H fp (X.pn++pins)) [] (v0::pick σ ix) U s'/\tn i s'.heap/\(∀b∈fp,U b=τ)/\W i n C U) ?_ m0
   ⟨0,[],_,_,I0,Fd,λb f=>by rw[a8 (Oe (N b f))];exact(hf b f).1,w0⟩
  rintro n s3 ⟨i,C,v0,H3,I3,Fe,Ff,w3⟩
  let{Fg,alt}:=turn i n C H3 w3
  have M:∀{U:Hp},(∀b∈fp,U b=τ)->∀b∈fp,ib (bx X scope x (x::ys) cl k.objs.size s₂ H fp (X.pn++pins)) [] U b:=λhn b f=>
   {hn b f,Oe (O7 (N b f) a),λhm=>by
     rcases Oi.mp (I.gr b hm) with z |z
     .exact(hf b f).2.1 z
     .exact(hf b f).2.2.1 z,.inl f,λy c e=>by
      rcases dQ e with⟨_,rfl⟩ |⟨_,e⟩
      .exact Py (O7 (N b f) (Od a (PX _)))
      .exact(hf b f).2.2.2.2.1 y c (C7 y c e),λp hp=>(hf b f).2.2.2.2.2 p (by simpa [bx,aX] using hp)}
  rcases alt with⟨stop,qd⟩ |⟨go,hsz,step⟩
  .refine bb (T.done (bx X scope x (x::ys) cl k.objs.size s₂ H fp (X.pn++pins)) rfl rfl rfl hc i [] s3 _ H3 _ I3 (M Ff) Fe stop) λr s4 ⟨hr,Y⟩=>?_;subst hr
   let{m,hn,_}:=Y.loc
   refine HP s₂.heap.objs.size k.objs.size H3 s4 m ?_ hn Y.free (Py (O7 I.lt a)) (Od I.sz a) (λy c e=>?_) (λp hp=>?_) qd
   .exact I.oZ Y.os Y.base Y.aI Y.bare λb f=>{(hf b f).2.2.2.1,(hf b f).2.1,(hf b f).2.2.2.2.1,(hf b f).2.2.2.2.2}
   .let{v,o,q,d}:=I.cell y c e
    exact Oe (O7 (Oa q) a)
   .exact Oe (O7 (Oa (I.pin p hp).1) a)
  .refine bb (T.item (bx X scope x (x::ys) cl k.objs.size s₂ H fp (X.pn++pins)) rfl rfl rfl hc i [] s3 _ H3 _ I3 (M Ff) Fe go) λr s4 ⟨u,hr,h4⟩=>?_;subst hr;refine bb h4 λ_ s5 ⟨xv,H5,I5,r5,y5,R,F0⟩=>?_;have F1:=I5.pinned (M F0) (T.obj _ _ R);have hx:(relabel scope X.5).names.lookup x=ρ .cell:=pX B.var;refine OB (lQ (X:=bx X scope x (x::ys) cl k.objs.size s₂ H fp (X.pn++pins)) (i:=0) (pos:=px) B.nd rfl (.inr hx) (.inl (beq_self_eq_true x)) _ s5 _ H5 xv u (λσ' U=>σ'=ρ xv::pick σ ix/\U=H5) F1 r5 ⟨rfl,rfl⟩) (λ_ s6 ⟨σ6,H6,I6,e6,e7⟩=>?_) λ_ _ z=>OI z;subst e6 e7;refine OB (ht _ _ _ _ _ _ s6 _ _ _ I6 (step xv _ y5)) (λb s7 ⟨H7,I7,q7⟩=>?_) λ_ _ z=>OI z
   have again:∀{S:St} {V:Hp} {Z:Shared},Inv (bx X scope x (x::ys) cl k.objs.size s₂ H fp (X.pn++pins)) ([]++iE fp s5.heap) S V Z ->
    Inv (bx X scope x (x::ys) cl k.objs.size s₂ H fp (X.pn++pins)) [] S V Z/\tn (i+1) Z.heap/\∀b∈fp,V b=τ:=λ{S V Z} I8=>by
    refine{I8.df,T.keep _ _ _ R λb f o e=>(I8.pin (b,o) (Ow _ (Ow _ (bU f e)))).1,λb f=>?_}
    let{o,e,d}:=T.obj _ _ R b f
    exact(I8.pin (b,o) (Ow _ (Ow _ (bU f e)))).2.1
   cases b with
   |false=>
    rw[if_neg Oj]at q7 ⊢
    let{m',hm,w7}:=q7
    let{a1,a2,a3}:=again I7
    exact{m',hm,i+1,C,_,H7,a1,a2,a3,w7}
   |true=>
    rw[if_pos rfl]at q7 ⊢;refine OB (he _ _ _ _ _ _ s7 _ _ _ I7 q7) (λuy Z ⟨y,V,I8,r8,Fh,m',hm,w8⟩=>?_) λ_ _ z=>OI z
    refine OB (hQ (X:=bx X scope x (x::ys) cl k.objs.size s₂ H fp (X.pn++pins)) _ Z _ V (.ref s₂.8) [y] (.ref s₂.8) [uy] (λ_ H9=>H9=upd V s₂.heap.objs.size (.lst (C++[y]))) I8 rfl (.cons r8 .nil) {_,C,y,rfl,rfl,Fh,hsz,rfl})
     (λ_ s9 {v9,H9,I9,_,e9}=>?_) λ_ _ z=>OI z
    subst e9
    let{a1,a2,a3}:=again I9
    exact{m',hm,i+1,C++[y],_,_,a1,a2,a3,w8}
 exact U6 (O _ rfl) (T.self X.A 0 _ _ _ Fd (O _ rfl))
theorem A3{g:List Expr}{iter j:Expr}{U:TT}{te:TE}{px pos:Pos}{wi:TI}(hc:X.calm=true)(B:mS X scope x ys ix)(hi:PI X (.Name x px) iter wi)
 (ht:∀cl L s H ex pn,AF (bx X scope x (x::ys) cl L s H ex pn) g U) (he:∀cl L s H ex pn,PE (bx X scope x (x::ys) cl L s H ex pn) j te)
 (hs:∀v,Q4 iter X.env v=pure v:=by intro _;rfl):PE X (.ListComp j [⟨.Name x px,iter,g,0⟩] scope pos) (ya wi ix U te):=by
 refine{?_};intro pins s σ H Q I h
 let{cl,a,d,f}:=eK (scope:=scope) (env:=X.5) (λy z i=>I.ok.has y.1 (B.free y z i))
 rw[eval_ListComp];refine Rz (use:=τ) rfl hs a B.kind B.names (bb (hi pins s σ H _ I h) λV Y k=>bb k λE Z n=>?_)
 let{it,fp,tn,J,H2,e,G,T,p,f2,hw}:=n
 subst e;refine uS (RR:=λr C=>compPost (model X.prog X.w) X.A X.xe τ (EP X pins σ Q) r C) (Qd:=λl t=>Q (.ref l) t) hc B G T p f2 d f (ht cl) (he cl) hw ?_;intro D L t M m N hn c k n O R q;exact{m,hn,λh' u=>{.ref D,t,N.turned (it:=L) (t':=M.toks) (λb o S e=>(u.2 b S).trans e) c k (.inr n) O R,rfl,q}}
end
section
variable{X:Cx}{pos:Pos}
theorem forA(hi:PI X j iter l)(r:PG X j g)(I:q8 X body J)(T:V7 (model X.prog X.w) X.A X.env X.xe:=by exact Sf)(hc:X.calm=true:=by rfl)(U:∀x,Q4 iter X.env x=pure x:=by intro _;rfl):PS X (.For j iter body [] pos) (CZ l g J):=gu T hc hi r I U
end
end _L
namespace K60
section
variable{P:Om}{w:World}{K:O4}{mg:Str->Option Value}{base:Heap}
theorem ku(L:Lk K mg):aH P w K mg base dk 2 L.fQ L.fU ["barred"] (yW K):=by
 have T:=L.T;refine L.fZ.F.fG (N:=["barred","found","word","length","beginning"]) (λJ A outer s H vs Q E nd M h=>?_)
 let{a,ws,rfl,u,hl,hw,k}:=h
 have O:=fO M
 refine{_,(a0 (ah (i:=1) (AO (ym ao bI Au) rfl rfl (by simp) ⋯))
  (a0 (forA (bP (0)) (aj (i:=2)) (a6 (forA (wu rfl T.range (a4 a9 (aB (vv T.len (2))))) (aj (i:=3)) (a0 (ah (i:=4) (cH k8 (2) dD (dF (3))))
  (a6 (aG (aY (aN (af (g9 L) L.ee (a4 (4) (aB (0)))))) (a6 (hU O (1) (4) bI rfl)) aq))))))
  (a6 (ai (aD (qk rfl) (by rfl) T.sorted AV (aB (1))))))),?_}
 ac_rfl
 intro d hd;refine{a5,[((Ou "":Key),V.bl true)],rfl,⋯,?_}
 have D:a7 H (upd (upd H d (.dK [])) d (.dK (jZ [] [((Ou "":Key),V.bl true)]))):=by
  rw[uU];exact a7.upd hd
 refine{1,a,rfl,{_,D.seq u},eR (K:=K) (a:=a) (xs:=ws.map V.str) (λi σ g=>∃y c v4,σ=[ρ (.ref a),ρ (.ref d),y,c,v4]/\a7 H g/\g d=ρ (.dK (fN (bQ ws "" (ws.take i)))))
  ⟨τ,τ,τ,rfl,D,a5⟩ (λi σ g _ {_,_,_,_,f,_}=>f.seq u) ?_ ?_}
 .rintro i x σ g hx ⟨y,c,v4,rfl,f,r⟩;have hi:i<ws.9:=by have:=(O8.mp hx).1;rwa[O5]at this
  obtain⟨wd,m,rfl⟩:∃wd,ws[i]?=ρ wd/\x=.str wd:=by
   rw[OC]at hx
   cases e:ws[i]? with
   |none=>rw[e]at hx;cases hx
   |some z=>rw[e]at hx;exact{z,rfl,(Oc hx).symm}
  have R:wd∈ws:=Ox m;have S:=hw wd R;have U:ws.take (i+1)=ws.take i++[wd]:=by rw[Qk,m];rfl
  have X:(bQ ws "" (ws.take i)).9<=30:=by
   have:=hV (ws:=ws) (e:="") (us:=ws.take i) λv Y=>hw v (Rm Y);rw[OT]at this
   lia
  refine⟨_,rfl,wd,rfl,aa (),1,_,rfl,{⋯,⋯,(),()},?_⟩;have Z:((wd.9:Int)-1).toNat=wd.9-1:=()
  refine cp (lo:=1) (n:=((wd.9:Int)-1).toNat) (λj σ t=>∃c v4,σ=[ρ (.ref a),ρ (.ref d),ρ (.str wd),c,v4]/\a7 H t/\t d=ρ (.dK (fN (upTo ws wd (bQ ws "" (ws.take i)) j))))
   ⟨c,v4,rfl,f,r⟩ ?_ ?_
  .rintro j σ t hj ⟨c,v4,rfl,p,B⟩;have ec:(1+(j:Int))=((1+j:Nat):Int):=();refine{3,wd,rfl,aa (),?_};rw[ec];have Il:=mG ws wd (bQ ws "" (ws.take i)) j;refine{2,aS wd (1+j),a,ws,rfl,p.seq u,(),λH4 C=>{1,?_}};have G:=C _ _ B
   cases I:bears ws (aS wd (1+j)) with
   |true=>
    refine aC ?_;refine{_,1,p.trans C,?_};rw[G,cW];unfold kb;rw[if_pos I]
   |false=>
    refine bH ?_;refine{2,d,1,nV.k (k:=Ou (aS wd (1+j))) G (by rw[wj];exact cR ()),?_};refine{_,1,λb o e=>?_,?_}
    .rw[a8 (ae e hd)];exact C _ _ (p _ _ e)
    .rw[a5,wZ,cW];unfold kb;rw[if_neg (by rw[I];exact Oj)]
  .rintro σ t ⟨c,v4,rfl,p,B⟩;refine{_,c,v4,rfl,p,?_};rw[B,U,uj,Z];rfl
 .rintro σ g ⟨y,c,v4,rfl,f,r⟩;rw[O5,Pu]at r;have Nz:=hV (ws:=ws) (e:="") (us:=ws) hw;refine{1,d,_,1,r,tU _,(),λl ss q hp hs=>?_};exact k l ss _ (f.trans (a7.upd q)) (f.free q) a5 hp hs
theorem ot(L:Lk K mg):aH P w K mg base dk 2 L.jk L.ju ["place","signs","barred","places"] (Bn K):=by
 refine L.jG.F.fG (N:=["place","signs","barred","places","moves","sign","row"]) (λO A outer s H vs Q E nd R h=>?_)
 let{p,g,a,b,l,ps,rfl,S,T,U,V,X,y,B,k}:=h
 have Y:=fO R
 refine{_,(a0 (ah (i:=4) gv)
  (a0 (forA (gx (1)) (aj (i:=5)) (a0 (ah (i:=6) (ay av (0) (5)))
  (a6 (hU Y (4) (5) (rN (aN (af (g9 L) L.ee (a4 (6) (aB (2))))) cU (af (nP L) L.iz (a4 (6) (aB (3))))) rfl))))
  (a6 (ai (4))))),?_}
 ac_rfl
 intro d hd
 refine{1,g,rfl,pZ (d9 g) (λi σ f=>∃n v6,σ=[ρ (.str p),ρ (.str g),ρ (.ref a),ρ (.ref b),ρ (.ref d),n,v6]/\a7 H f/\f d=ρ (.dK (((ch g).take i).map λc=>((Ou ({#[c]}:Str):Key),lZ l ps p c))))
  {τ,τ,rfl,a7.upd hd,a5} (λ_ _ _ _ _=>trivial) ?_ ?_}
 .rintro i x σ f hx ⟨n,v6,rfl,r,u⟩
  obtain⟨c,hc,rfl⟩:∃c,(ch g)[i]?=ρ c/\x=.str ⟨#[c]⟩:=by
   unfold b2 at hx;rw[OC]at hx
   cases e:(ch g)[i]? with
   |none=>rw[show g.cps.toList[i]?=τ from e]at hx;cases hx
   |some z=>rw[show g.cps.toList[i]?=ρ z from e]at hx;exact{z,rfl,(Oc hx).symm}
  have hi:i<(ch g).9:=(O8.mp hc).1;have I:=au g;have Z:(p++({#[c]}:Str)).length=p.9+1:=by rw[<-au,ag,Oy,au];rfl
  refine{2,p,{#[c]},rfl,rfl,aa (by show p.9+1<=_;lia),?_}
  have fin:∀t,a7 f t->Ca (fu 4) (fu 5) (λ_ C Q5=>Q5 (lZ l ps p c) C) {nx:=λσ f=>∃n v6,σ=[ρ (.str p),ρ (.str g),ρ (.ref a),ρ (.ref b),ρ (.ref d),n,v6]/\a7 H f/\f d=ρ (.dK (((ch g).take (i+1)).map λc=>((Ou ({#[c]}:Str):Key),lZ l ps p c))),rt:=Q}
   [ρ (.str p),ρ (.str g),ρ (.ref a),ρ (.ref b),ρ (.ref d),ρ (.str {#[c]}),ρ (.str (p++{#[c]}))] t:=by
   intro t m;have h4:=m _ _ u;refine{2,d,1,nV.k (k:=Ou ({#[c]}:Str)) h4 (by rw[O5,OT];exact cR ()),?_};refine{_,1,λb o e=>?_,?_}
   .rw[a8 (ae e hd)];exact m _ _ (r _ _ e)
   .rw[a5,gm]
    .have:(ch g).take (i+1)=(ch g).take i++[c]:=by rw[Qk,hc];rfl
     rw[this,OV];rfl
    .cases q:dO (((ch g).take i).map λc=>((Ou (⟨#[c]⟩:Str):Key),lZ l ps p c)) (Ou (⟨#[c]⟩:Str):Key) with
     |none=>rfl
     |some v=>
      have:=qo q;rw[OS]at this
      let{D,G,e}:=Ol.mp this
      have e':({#[D]}:Str)={#[c]}:=Rb e
      have:D=c:=by
       have:=congrArg ch e';simpa [ch] using this
      subst this
      let{j,hj,J}:=Sd.mp G
      rw[Tb]at J;rw[OT]at hj;have e1:(ch g)[i]=D:=(O8.mp hc).2;have:=(QN y).mp (J.trans e1.symm)
      lia
  refine{2,_,a,l,rfl,r.seq S,B,λt m=>{1,?_}}
  cases M:bears l (p++⟨#[c]⟩) with
  |true=>
   refine bH ?_;have:=fin t m;unfold lZ at this;rw[if_pos M]at this;unfold lZ;exact this
  |false=>
   refine aC ?_;refine{2,_,b,ps,rfl,(r.trans m).seq T,U,(),λC s5=>?_};have:=fin C (m.trans s5);unfold lZ at this;rw[if_neg (by rw[M];exact Oj)]at this;unfold lZ;exact this
 .rintro σ f ⟨n,v6,rfl,r,u⟩;have e:(b2 g).9=(ch g).9:=by unfold b2;rw[O5]
  rw[e,Pu]at u;exact{_,rfl,k d f r hd u}
theorem ou(L:Lk K mg):aH P w K mg base dk 2 L.fH L.jw ["moves"] (Dp K):=by
 have T:=L.T;refine L.jI.F.fG (N:=["moves","lot","left"]) (λY A outer s H vs Q E nd hr h=>?_)
 let{d,Z,o,rfl,hd,hl,hm,hf,LQ,k}:=h
 have hu:=fO hr;have LR:(A.deeper (UT "live_among" (ak (top 30)) s.heap.objs.size L.fH Y)).units<Rq:=hr.yn
 refine{_,(a0 (ah (i:=1) (aL (mB rfl) (by rfl) T.list vC (aB (0))))
  (a6 (rO Sf (aN bI) (a0 (iM (i:=2) rfl (bg ["moves","lot"] [0,1]) nd rfl rfl (bP (1)) (λ_ _ _ _ _ _=>ql (aN (af (oq L) L.jH (a4 (aL (uc rfl) (by rfl) T.list vC (aB (AI (K:=K) rfl PySem.F.plainAttrs_dict To PySem.F.type_dict_values wy (d7 hu (1) (0) (λ_ _=>rfl))))) (aB (2)))))) (λ_ _ _ _ _ _=>(0)))
  (a0 (aG (bE (D7 LR) (2) (1)) (a6 (ai (1))) aq)
  (a6 (ah (i:=1) (2)))))))),?_}
 ac_rfl
 refine{1,d,1,hd,λl0 t=>?_}
 refine{λm σ H2=>∃(l:Addr) (ls:List Str) (v:Option V),m=ls.9/\σ=[ρ (.ref d),ρ (.ref l),v]/\a7 H H2/\H l=τ/\H2 l=ρ (.lst (ls.map V.str))/\ls.Sublist (Z.map (·.1)) /\
  ∀b:List Str,(∀k∈b,k∈Z.map (·.1)/\gp (o k) b=true)->∀k∈b,k∈ls,
  {_,l0,Z.map (·.1),τ,rfl,rfl,a7.upd t,t,by rw[a5,iF],List.Sublist.refl _,λb h k hk=>(h k hk).1},?_}
 rintro m σ H2 ⟨l,ls,v,rfl,rfl,S,Im,U,f,c⟩;refine{true,rfl,bH ?_};have Io:ls.9<=1000:=by have:=f.length_le;rw[O5]at this;lia
 let p:V->Bool:=λx=>match x with
  |.str k=>gp (o k) ls
  |_=>false
 let g:List Str:=ls.filter λk=>gp (o k) ls
 have u:(ls.map V.str).filter p=g.map V.str:=by
  rw[VR];rfl
 refine{λy r=>∃(B:Addr) (v:Option V),y=[ρ (.ref d),ρ (.ref B),v]/\a7 H r/\H B=τ/\r B=ρ (.lst (g.map V.str))/\g.9<ls.9,?_,?_}
 .rintro y r ⟨B,v,rfl,n,Gz,C,JF⟩;refine{g.9,JF,B,g,v,rfl,rfl,n,Gz,C,(UU).trans f,λb h k hk=>?_};have LU:=c b h k hk;exact QC.mpr {LU,tV (c b h) (h k hk).2}
 .refine{1,l,rfl,{_,aK.of U},λl2 D=>hK p (λx=>x) (cm K l (ls.map V.str)) D (by rw[O5];exact aa ()) (λr n=>n.seq (aK.of U)) (λx G Q' hx s3 q=>?_) (λx G Q' hx _ s3 q=>{1,q G (a7.refl _)}) (λr n C=>?_)}
  .let{X,LV,rfl}:=Ol.mp hx
   let{a,ha,I}:=eQ (f.subset LV)
   have J:a7 H G:=S.trans s3;have LW:=J _ _ hd;have j:=J _ _ (hm _ ha);refine{2,d,.ref a,rfl,?_,?_}
   .have:=eJ.k (k:=(Ou X:Key)) LW;rw[I]at this;exact this
   refine{.inr (.inr (.inl {rfl,.inl {_,j}})),a,1,rfl,j,λvw M=>?_};refine{vw,a,1,a5,by rw[a8 (ae j M)];exact j,λl3 Fg=>?_};have s4:a7 G (upd (upd G vw (rE vw a)) l3 (.lst ((o X).map (·.2)))):=(a7.upd M).trans (a7.upd Fg);refine{1,l3,l,_,1,aK.of a5,aK.of (s4 _ _ (s3 _ _ U)),hf X,hI ls,by rw[O5];exact LQ X,λH5 s5=>{1,?_}};exact q H5 (s4.trans s5)
  .rw[Vf,u]at C;have O:=n _ _ U;refine{2,l2,l,_,1,rfl,aK.of C,aK.of O,hI _,hI _,1,?_};rw[oR];have R:H l2=τ:=S.free D
   by_cases e:g=ls
   .rw[decide_eq_true e];refine bH ?_;refine{1,k l ls r (S.trans n) Im O {f,λkk hk=>?_,c}};have:=e ▸ hk;exact(QC.mp this).2
   .rw[decide_eq_false e];refine aC ?_;refine{1,l2,1,S.trans n,R,C,?_};rcases SQ (Rg (λk=>gp (o k) ls) ls) with z |z
    .exact z
    .exact absurd ((UU (p:=λk=>gp (o k) ls)).eq_of_length z) e
theorem rk(L:Lk K mg):aH P w K mg base dk 3 L.kM L.kW ["band","place"] (uA L.al):=by
 refine L.ly.F.fG (N:=["band","place","ends"]) (λI A outer s H X Q E nd Y h=>?_)
 let{x,p,g,u,ss,ls,rfl,B,J,M,k}:=h
 refine{_,(a0 (iM (i:=2) rfl (bg ["band","place"] [0,1]) nd rfl rfl (gx (cI (0) rfl)) (λ_ _ _ _ _ _=>cf) (λ_ _ _ _ _ _=>(E4 (1) L.ax.cl L.ei (eF L) (a4 (2) (aB (0))))))
  (a6 (ai (cJ rfl (bg [] []) (bP (2)) (λ_ _ _ _ _ _=>ql (bE vn (0) cU)) (λ_ _ _ _ _ _=>(0)))))),?_}
 ac_rfl
 let{{O,b,d,q,Z,R,h2,h3,h4,h5,h6},pm,_,_}:=id B
 refine{1,x,L.al,O,_,1,R,L.ax.cl,L.ax.i6,dS g b d q,g,rfl,λl hl=>?_};refine comp_map (JC u ss p) (d9 g) hl (by rw[iP];exact aa ()) (λ_ _=>trivial) (λz C D S n e=>?_) (λC n a=>?_)
 .let{c,hc,rfl}:=Ol.mp S
  have G:=B.same n
  let{{o,_,_,_,_,r,_},_}:=id G
  exact{1,x,o,1,r,B7 _ _ _ _ ∅ ∅ ∅ ∅,2,x,p,c,g,u,ss,ls,rfl,G,J,hc,e C (a7.refl _)}
 .rw[x2]at a;refine{1,l,rfl,{_,aK.of a},λT f=>?_};refine hK tR (λv=>v) (cm K l _) f (by rw[O5,au];exact aa ()) (λH' U=>aK.of (U _ _ a)) (λy j D V t e=>{1,rfl,1,e j (a7.refl _)}) (λy j D V _ t e=>{1,e j (a7.refl _)}) (λj t m=>?_);rw[Vf,sE]at m;exact k T j (n.trans t) (none_of n f) m
theorem tq(L:Lk K mg):aH P w K mg base dk 4 L.mX L.nr ["band"] (x6 L.al):=by
 refine L.nJ.F.fG (N:=["band","ends","place"]) (λhH A outer s H vs Q E nd hr h=>?_)
 let{x,g,U,ss,ls,rfl,B,X,DQ,k}:=h
 have hu:=fO hr
 refine{_,(a0 (ah (i:=1) gv)
  (a0 (forA (bP (Ih (0) L.ax.cl L.iA (nQ L))) (aj (i:=2)) (a6 (hU hu (1) (2) (af (rk L) L.ly (a4 (0) (aB (2)))) rfl)))
  (a6 (ai (1))))),?_}
 ac_rfl
 refine λn r=>?_;have R:a7 H (upd H n (.dK [])):=a7.upd r;have B0:=B.same R
 let{{dx,b,d,q,mv,h1,h2,h3,h4,h5,h6},pm,_,_}:=id B0
 refine{1,x,dx,1,h1,B7 _ _ _ _ ∅ ∅ ∅ ∅,x,g,U,ss,ls,rfl,B0,λlp S G f1 I=>?_};have Y:lp≠n:=λz=>by rw[z,a5]at f1;cases f1
 have nd:=B.nd
 refine{lp,rfl,{_,aK.of I},eR (K:=K) (a:=lp) (xs:=ss.map V.str) (λi σ T=>∃Z l,σ=[ρ (.ref x),ρ (.ref n),Z]/\T n=ρ (.dK (bM l))/\l.map (·.1)=ss.take i/\(∀m∈l,T m.2=ρ (.lst ((bL g U ss m.1).map V.str)))/\(∀m∈l,S m.2=τ)/\(∀c o,S c=ρ o->c≠n->T c=ρ o))
  {τ,[],rfl,G _ _ a5,rfl,λm t=>(nomatch t),λm t=>(nomatch t),λc o e _=>e} (λi σ T _ {_,_,_,_,_,_,_,D}=>aK.of (D _ _ I Y)) ?_ ?_}
 .rintro i y σ H5 hy ⟨Z,l,rfl,u,f,j,v,D⟩
  let{p,Ip,rfl,hi,Cq,xP}:=gD hy
  have LX:a7 H H5:=λc o e=>D _ _ (G _ _ (R _ _ e)) (ae e r);refine{2,x,p,g,U,ss,ls,rfl,B.same LX,Cq,X,λe H6 s6 C LY=>?_};have d6:=s6 _ _ u;have J:p∉l.map (·.1):=by rw[f];exact mR nd Ip
  have LZ:l.9<=900:=by have:=congrArg Rp f;rw[O5,OT]at this;lia
  refine{2,n,1,nV.k (k:=Ou p) d6 (by unfold bM;rw[O5];exact cR ()),?_};have M:e≠n:=λz=>by rw[z,u]at C;cases C
  have e1:S e=τ:=by
   cases q:S e with
   |none=>rfl
   |some o=>
    have:=D _ _ q M;rw[this]at C;cases C
  refine{_,l++[(p,e)],rfl,?_,?_,?_,?_,?_}
  .rw[a5,gm _ (mD J)];unfold bM;rw[OV];rfl
  .rw[OV,f,xP];rfl
  .intro m t;rcases P2.mp t with z |z
   .have nm:m.2≠n:=λq=>by
     have:=v m z;rw[q,G _ _ a5]at this;cases this
    rw[a8 nm];exact s6 _ _ (j m z)
   .have:m=(p,e):=by simpa using z
    subst this;rw[a8 M];exact LY
  .intro m t;rcases P2.mp t with z |z
   .exact v m z
   .have:m=(p,e):=by simpa using z
    subst this;exact e1
  .intro c o hc O;rw[a8 O];exact s6 _ _ (D c o hc O)
 .rintro σ H5 ⟨Z,l,rfl,u,f,j,v,D⟩;rw[O5,Pu]at f;exact{1,k n l H5 (λc o e=>D _ _ (G _ _ (R _ _ e)) (ae e r)) r u f j λm t=>none_of R (none_of G (v m t))}
theorem dA(L:Lk K mg):aH P w K mg base dk 5 L.gO L.gU ["band","length"] (Bk L.al):=by
 have T:=L.T;refine L.cM.F.fG (N:=["band","length","ends","counts","place","table","step","longer"]) (λhH A outer s H vs Q E nd hr h=>?_)
 let{x,n,g,G,ss,ls,rfl,B,FT,DQ,NA,ND,k}:=h
 have hu:=fO hr
 refine{_,(a0 (ah (i:=2) (af (tq L) L.nJ (aB (0))))
  (a0 (ah (i:=3) gv)
  (a0 (forA (vZ (2)) (aj (i:=4)) (a6 (hU hu (3) (4) a9 rfl)))
  (a0 (ah (i:=5) (fz (aB (3))))
  (a0 (forA (cu rfl T.range (aB (1))) (aj (i:=6)) (a0 (ah (i:=7) gv)
  (a0 (forA (vZ (2)) (aj (i:=4)) (a6 (hU hu (7) (4) (aD (rX rfl) (by rfl) T.sum Fp (aB (cJ rfl (bg ["counts"] [3]) (bP (d7 hu (2) (4) (λ_ _=>rfl))) (λ_ _ _ _ _ _=>cf) (λ_ _ _ _ _ _=>(d7 hu (1) (0) (λ_ _=>rfl)))))) rfl)))
  (a0 (cb (mC RH RM Tw hQ (5) (aB (7))))
  (a6 (ah (i:=3) (7)))))))
  (a6 (ai (5)))))))),?_}
 ac_rfl
 have nd:=B.nd;have he:("":Str)∈ss:=B.pm.mem_iff.mpr (bt G);refine{1,x,g,G,ss,ls,rfl,B,FT,DQ,λd u H1 s1 M0 h1 ek er ef=>?_};refine λl v=>?_;have Z:d≠l:=ae h1 v;have I:((bM u).map λkv=>kV kv.1)=ss.map V.str:=by rw[iF,ek]
 have M1:∀m∈u,m.2≠d:=λm q z=>by have:=er m q;rw[z,h1]at this;cases this
 refine{1,d,1,.inl {(a7.upd v) _ _ h1,λo=>?_}};have J:=pf d o (bM u);rw[I]at J;have S:(upd (upd H1 l (.dK [])) d (.frz o (.dK (bM u)))) l=ρ (.dK []):=by rw[a8 (Pz Z),a5]
 have U:(upd (upd H1 l (.dK [])) d _) d=ρ (.frz o (.dK (bM u))):=a5
 have sz:a7 H (upd (upd H1 l (.dK [])) d (.frz o (.dK (bM u)))):=λc r e=>by
  rw[a8 (ae e M0)];exact a7.upd v _ _ (s1 _ _ e)
 have X:∀m∈u,(upd (upd H1 l (.dK [])) d (.frz o (.dK (bM u)))) m.2=ρ (.lst ((bL g G ss m.1).map V.str)):=λm q=>by
  rw[a8 (M1 m q)];exact a7.upd v _ _ (er m q)
 have f0:H l=τ:=none_of s1 v;generalize upd (upd H1 l _) d _=Hz at S U sz X;have Iq:∀m∈u,m.2≠l:=λm q z=>by have:=X m q;rw[z,S]at this;cases this
 refine pZ J (λi σ H3=>∃v4,σ=[ρ (.ref x),ρ (.int n),ρ (.ref d),ρ (.ref l),v4,τ,τ,τ]/\H3 l=ρ (.dK (k6 (λp=>.int (cz g G ss 0 p)) (ss.take i)))/\∀c r,Hz c=ρ r->c≠l->H3 c=ρ r) {τ,rfl,S,λc r e _=>e} (λi σ H3 _ {_,_,_,b}=>b _ _ U Z) ?_ ?_
 .rintro i y σ H3 hy ⟨v4,rfl,h3,b⟩
  let{p,Ip,rfl,hi,Cq,xP}:=gD hy
  refine{2,l,1,nV.k (k:=Ou p) h3 (by rw[rG,OT];exact cR ()),?_};refine{1,?_,λc r e hc=>by rw[a8 hc];exact b c r e hc};rw[a5,gm _ (ph _ (mR nd Ip)),xP,oW];rfl
 rintro σ H3 ⟨v4,rfl,h3,b⟩;rw[O5,Pu]at h3;have s3:a7 H H3:=λc r e=>b _ _ (sz _ _ e) (ae e f0);have M3:=b _ _ U Z;have JG:∀m∈u,H3 m.2=ρ (.lst ((bL g G ss m.1).map V.str)):=λm q=>b _ _ (X m q) (Iq m q);clear b S U sz X J v h1 er;refine{1,by show 1<=sizeLine;decide,λlt C=>?_};have flt:H lt=τ:=none_of s3 C
 refine{1,n,rfl,(),(),cp (lo:=0) (n:=n.toNat) (Lg g G ss u o x d lt n H)
  {[l],l,_,τ,τ,rfl,rfl,rfl,a5,?_,a7.upd C _ _ M3,λm q=>a7.upd C _ _ (JG m q),s3.trans (a7.upd C)} ?_ ?_}
 .intro j t R
  cases j with
  |zero=>
   obtain rfl:l=t:=Oc R;exact a7.upd C _ _ h3
  |succ j=>simp at R
 .rintro i σ H4 hi ⟨ts,dc,v4,v6,v7,rfl,M,GA,Ir,Y,D,Iu,s4⟩;refine λdl Iv=>?_;have sd:a7 H4 (upd H4 dl (.dK [])):=a7.upd Iv;have M4:=Y i dc GA;have J:=pf d o (bM u);rw[I]at J;have NF:d≠dl:=ae D Iv;refine{1,d,1,.inr {o,sd _ _ D,?_}};refine pZ J (λj σ H5=>∃v4,σ=[ρ (.ref x),ρ (.int n),ρ (.ref d),ρ (.ref dc),v4,ρ (.ref lt),ρ (.int (0+(i:Int))),ρ (.ref dl)]/\H5 dl=ρ (.dK (k6 (λp=>.int (cz g G ss (i+1) p)) (ss.take j)))/\∀c r,H4 c=ρ r->H5 c=ρ r) {1,a5,λc r e=>sd _ _ e} (λj σ H5 _ {_,_,_,b}=>b _ _ D) ?_ ?_
  .rintro j y σ H5 hy ⟨v4,rfl,h5,b⟩
   let{p,M5,rfl,hj,Cq,xP}:=gD hy
   let{a,ha,hv}:=eQ (mv:=u) (k:=p) (by rw[ek];exact Cq)
   have e1:=eJ.f (k:=(Ou p:Key)) (b _ _ D);rw[hv]at e1;have JH:=b _ _ (Iu _ ha);have Iw:=b _ _ M4;have el:=uw g G ss p;refine{2,d,1,e1,a,rfl,{_,aK.of JH},λlm FU=>?_};refine comp_map (EI (cz g G ss i)) (cm K a ((bL g G ss p).map V.str)) FU (by rw[O5];exact aa ()) (λH' s'=>aK.of (s' _ _ JH)) (λz H6 Q' hz s6 qq=>?_) (λH6 s6 h6=>?_)
   .let{t,R,rfl}:=Ol.mp hz
    have e2:=eJ.k (k:=(Ou t:Key)) (s6 _ _ Iw);rw[gq _ (uE he R)]at e2;exact{2,dc,1,e2,qq H6 (a7.refl _)}
   .rw[wk]at h6;refine{lm,1,aK.of h6,?_};have M6:=s6 _ _ h5;refine{2,dl,1,nV.k (k:=Ou p) M6 (by rw[rG,OT];exact cR ()),?_};refine{1,?_,λc r e=>by rw[a8 (ae e Iv)];exact s6 _ _ (b c r e)};rw[a5,gm _ (ph _ (mR nd M5)),xP,oW];rfl
  rintro σ H5 ⟨NI,rfl,h5,b⟩;rw[O5,Pu]at h5;have O:=b _ _ Ir;refine{1,.inl {rfl,_,aK.of O},1,lt,_,1,rfl,O,by rw[O5];exact QZ (m:=200000) () (by rw[QI];decide),?_};have M7:∀t,H5 t=ρ (.dK (ux g G ss (i+1)))->t≠lt:=λt e z=>by rw[z,O]at e;cases e
  refine{1,ts++[dl],dl,_,_,1,by rw[Oy,M];rfl,by rw[P5 (),M,Sj];rfl,by rw[a5,OV];rfl,?_,?_,?_,?_}
  .intro j t R
   by_cases hj:j<ts.9
   .rw[Qe hj]at R;have e:=b _ _ (Y j t R);rw[a8 (λz=>by rw[z,O]at e;cases e)];exact e
   .have Iy:j=i+1:=by
     have:=(O8.mp R).1;rw[Oy,RW]at this
     lia
    subst Iy;rw[P5 (),M,Sj]at R;obtain rfl:dl=t:=Oc R;rw[a8 (M7 _ h5)];exact h5
  .have e:=b _ _ D;rw[a8 (λz=>by rw[z,O]at e;cases e)];exact e
  .intro m q;have e:=b _ _ (Iu m q)
   by_cases z:m.2=lt
   .exfalso;have f:=JG m q;rw[z,C]at f;cases f
   .rw[a8 z];exact e
  .exact λc r e=>by rw[a8 (ae e flt)];exact b _ _ (s4 _ _ e)
 .rintro σ H4 ⟨ts,dc,v4,v6,v7,rfl,M,GA,Ir,Y,D,Iu,s4⟩;exact{_,rfl,k lt ts H4 s4 flt Ir M Y}
theorem ow(L:Lk K mg):aH P w K mg base dk 6 L.jn L.jy ["band","place","length"] (zh L.al):=by
 refine L.jJ.F.fG (N:=["band","place","length"]) (λy A outer s H T Q E nd C h=>?_)
 let{x,p,n,g,r,ss,ls,rfl,B,u,e,f,i,j,k}:=h
 have D:=fO C
 refine{_,(a0 (cb (E4 (0) L.ax.cl L.cg (dB L) (aB (1))))
  (a6 (ai (d7 D (aF aM (af (dA L) L.cM (a4 (0) (aB (2)))) (Cb yA a9) (λ_ _=>rfl)) (1) (λ_ _=>rfl))))),?_}
 ac_rfl
 let{{G,b,d,q,U,I,X,Y,Z,h5,h6},_,_,_}:=id B
 refine{1,x,G,1,I,B7 _ _ _ _ ∅ ∅ ∅ ∅,1,x,p,g,r,ss,ls,rfl,B,u,?_};refine{2,x,n,g,r,ss,ls,rfl,B,e,f,i,j,λl m J M f1 hl a O=>?_};obtain⟨c,t,rfl⟩:∃l t,m=l++[t]:={m.dropLast,m.getLast (by intro z;rw[z]at a;simp at a),(SD _).symm};have R:iY ((c++[t]).map V.ref) (-1)=ρ (.ref t):=by rw[OV];exact rC _ _
 have o:c.9=n.toNat:=by rw[Oy,RW]at a;lia
 have S:=O n.toNat t (by rw[P5 (),o,Sj];rfl);have v:=eJ.k (k:=(Ou p:Key)) S;rw[gq _ u]at v;exact{1,l,_,-1,1,rfl,aK.of hl,R,1,t,1,v,k J M}
theorem A4(L:Lk K mg):aH P w K mg base dk 7 L.vO L.vP ["band","length"] (Bl L.al):=by
 refine L.vQ.F.fG (N:=["band","length"]) (λf A outer s H j Q E nd l h=>?_)
 let{x,n,g,e,ss,ls,rfl,B,a,b,c,d,k}:=h
 refine{_,(a6 (ai (af (ow L) L.jJ (a4 (0) (a4 ao (aB (1))))))),?_}
 ac_rfl
 have i:("":Str)∈ss:=B.pm.mem_iff.mpr (bt e);exact{2,x,"",n,g,e,ss,ls,rfl,B,i,a,b,c,d,k}
theorem jO(L:Lk K mg):aH P w K mg base dk 1 L.kO L.kY ["word"] DE:=by
 have T:=L.T;refine L.gY.F.fG (N:=["word"]) (λt A outer s H J Q E nd M h=>?_)
 let{n,rfl,hn,k}:=h
 refine{_,(a0 (aG (PW.pt (cQ (bE rK (vv T.len (0)) a9) (cE (bE j7 (vv T.len (0)) (c9 (v:=.int 60) (by rfl) L.lI.choose_spec {_,rfl}))))) (a6 (ai bI)) aq)
  (a0 (aG (PW.pt (qe (bE dg (aF fy (0) a9 (λ_ _=>rfl)) ao) (lP (bE vm (0) ao)))) (a6 (ai bI)) aq)
  (a6 (ai (aD (mz rfl) (by rfl) T.all Dl (aB (cJ rfl (bg [] []) (gx (0)) (λ_ _ _ _ _ _=>cf) (λ_ _ _ _ _ _=>(bO eS (0) (c9 (v:=.str (OM "0123456789")) (by rfl) L.uP.choose_spec {_,rfl}) rfl))))))))),?_}
 ac_rfl
 let{O,R}:=dh hn
 refine{1,aE n,rfl,aa 1.0,_,1,rfl,false,?_,aC {1,aE n,rfl,aa 1.0,_,1,rfl,false,?_,aC ?_}}
 .exact congrArg V.bl (decide_eq_false 1.0)
 .exact congrArg V.bl (decide_eq_false 1.0)
 obtain⟨c,a,g⟩:∃c a,ch (aE n)=c::a:=by
  cases e:ch (aE n) with
  |nil=>exact absurd e (qG n)
  |cons c a=>exact⟨c,a,rfl⟩
 have m:iY (aE n).cps.toList 0=ρ c:=by
  show iY (ch (aE n)) ((0:Nat):Int)=ρ c;rw[g];exact aw rfl
 have all:∀b,a7 H b->D2 (F9 (λu H Q=>∃p bs,u=[V.ref p]/\aK K H p (Sy V.bl bs)/\Q (V.bl (bs.all id)) H) (mc (ya (EA (fu 0)) [] y2 (oF (λx y H Q=>∃i j,x=V.str i/\y=V.str j/\Q (V.bl !(Q2 j i 0 j.length 1).isEmpty) H) (fu 0) (tC (V.str (OM "0123456789"))))) nU)) (Ends.fn Q) [ρ (.str (aE n))] b:=λb B=>by
  refine{1,aE n,rfl,λl hl=>?_};refine comp_map (λ_=>.bl true) (d9 (aE n)) hl (by unfold b2;rw[O5,au];exact aa 1.0) (λ_ _=>trivial) (λy f S C o q=>?_) (λf o D=>?_)
  .let{d,hd,rfl}:=Ol.mp (show y∈(ch (aE n)).map λc=>V.str {#[c]} from C)
   have:=z6 (gK n d hd);refine{1,_,1,rfl,?_};rw[show (!(Q2 (OM "0123456789") ({#[d]}:Str) 0 (OM "0123456789").length 1).isEmpty)=true from this];exact q f (a7.refl _)
  .refine{l,P9 (b2 (aE n)).length true,rfl,aK.of (by rw[D,VU,SM]),?_};rw[show (P9 (b2 (aE n)).length true).all id=true by rw[OD];exact λx hx=>(R9.mp hx).2];exact k f (B.trans o)
 by_cases hc:c=48
 .obtain rfl:n=0:=by
   by_cases z:n=0
   .exact z
   .let{U,G,r,I}:=xh (n:=n) 1.0
    rw[g]at r;exact absurd ((PY r).1.symm.trans hc) I
  subst hc;exact⟨_,rfl,aE 0,0,48,rfl,rfl,aa 1.0,m,rfl,true,∅,bH {1,rfl,false,∅,aC (all H (a7.refl _))}⟩
 .exact⟨_,rfl,aE n,0,c,rfl,rfl,aa 1.0,m,rfl,false,congrArg V.bl (decide_eq_false λz=>hc (by have:=congrArg ch (V.str.inj z);exact(PY (show [c]=[48] from this)).1)),aC (aC (all H (a7.refl _)))⟩
theorem mQ.mono{T CB U CR CE CS CT CW:Addr}{H:Hp}{Q Q':VK}{E E':XK}{x dx:Addr}{v:V}{ps:List Str}(h:mQ T CB U CR CE CS CT CW H Q E x dx v ps)(C:∀u j,Q u j->Q' u j)(he:∀c o j,E c o j->E' c o j):mQ T CB U CR CE CS CT CW H Q' E' x dx v ps:=by
 rcases h with⟨g,t,e,sg,A,D,k⟩ |⟨g,t,e,hc⟩ |⟨G,g,t,ss,ls,X,L,rfl,B,e,w1,nd,M,I,hc⟩
 .exact .bok g t e sg A D λG ss ls j a b c=>C _ _ (k G ss ls j a b c)
 .refine .bno g t e ?_;rcases hc with⟨f,l,k⟩ |⟨f,l,m,y⟩
  .exact .inl {f,l,λj p=>he _ _ _ (k j p)}
  .refine .inr {f,l,m,?_};rcases y with⟨s,k⟩ |⟨s,i,w,N,O,R,S,k⟩
   .exact .inl {s,λd j a b c=>he _ _ _ (k d j a b c)}
   .exact .inr {s,i,w,N,O,R,S,λd j a b c=>he _ _ _ (k d j a b c)}
 .refine .ask G g t ss ls _ _ rfl B e w1 nd M I ?_;rcases hc with⟨n,f,l,m,k⟩ |⟨n,q,r,f,l,m,y,s,k⟩ |⟨n,q,f,l,m,y,s,k⟩ |⟨r,f,l,m,hk⟩
  .exact .inl {n,f,l,m,λj p=>C _ _ (k j p)}
  .exact .inr (.inl {n,q,r,f,l,m,y,s,λj p=>C _ _ (k j p)})
  .exact .inr (.inr (.inl {n,q,f,l,m,y,s,λj p=>he _ _ _ (k j p)}))
  .refine .inr (.inr (.inr {r,f,l,m,?_}));rcases hk with⟨q,z,J,k⟩ |⟨n,z,J,k⟩ |⟨i,z,k⟩
   .exact .inl {q,z,J,λj p=>C _ _ (k j p)}
   .exact .inr (.inl {n,z,J,λd j a b c=>he _ _ _ (k d j a b c)})
   .exact .inr (.inr {i,z,λd j a b c=>he _ _ _ (k d j a b c)})
theorem fL(L:Lk K mg):aH P w K mg base dk 1 L.kR L.lj ["_law_cell_here","_law_turn","_law_many"] Dt:=by
 have T:=L.T;refine L.eE.F.fG (N:=["_law_cell_here","_law_turn","_law_many","_law_digits","_law_step","_law_number"]) (λe A outer s H o Q E nd p h=>?_)
 let{c,t,m,rfl,f,g,a,k}:=h
 refine{_,(a0 (aG (PW.pt (qe (bE dg (ay dn (0) a9) a9) (lP (bE j7 (0) (ay Dc a9 a9))))) (a0 (ah (i:=3) (ay lS (0) a9))
  (a0 (forA (cu rfl T.range (aB (1))) (aj (i:=4)) (a6 (ah (i:=3) (ay lS (3) a9))))
  (a6 (ai (ay dn (ay dn (3) a9) (2)))))) aq)
  (a0 (ah (i:=5) (ay eL (ay eL (ay dn (0) a9) (ay ua a9 (1))) a9))
  (a6 (ai (ay dn (ay dn (ay eL (ay dn (ay ua (5) (5)) a9) (ay lS (5) a9)) a9) (2)))))),?_}
 ac_rfl
 have rest:yv (wm (oF (xN λi j=>.int (i+j)) (oF (xN λi j=>.int (i+j)) (oF (rI (λ_ j=>0<j) λi j=>.int (i%j)) (fu 0) (tC (.int 2147483629))) (oF (rI xX λi j=>.int (i*j)) (tC (.int 1009)) (fu 1))) (tC (.int 17))) (gi 5))
  (D2 (oF (rI (λ_ j=>0<j) λi j=>.int (i%j)) (oF (rI (λ_ j=>0<j) λi j=>.int (i%j)) (oF (xN λi j=>.int (i+j)) (oF (rI (λ_ j=>0<j) λi j=>.int (i%j)) (oF (rI xX λi j=>.int (i*j)) (fu 5) (fu 5)) (tC (.int 999999937))) (oF (rI Ek λi j=>.int (i/j)) (fu 5) (tC (.int 65536)))) (tC (.int 1000003))) (fu 2)))
  {nx:=λ_ l=>Q .non l,rt:=Q} [ρ (.int c),ρ (.int t),ρ (.int m),τ,τ,τ] H:=by
  refine{1,_,1,rfl,(by show (0:Int)<2147483629;decide),1,_,1,rfl,.inl {⋯,⋯},_,1,rfl,_,1,rfl,?_};refine{2,_,1,rfl,.inl {?_,?_},_,1,rfl,(by show (0:Int)<999999937;decide),1,_,1,rfl,{⋯,⋯},_,1,rfl,_,1,rfl,(by show (0:Int)<1000003;decide),1,_,1,rfl,a,k _ (R8 _ 1.0) (QB _ a)}
  .have:=R8 c (show (2147483629:Int)≠0 by decide);omega
  .have:=QB c (show (0:Int)<2147483629 by decide);omega
 refine{1,_,1,rfl,(by show (0:Int)<2;decide),rfl,1,?_};refine tO (λ_=>?_) (λ_=>aC rest);refine{1,_,1,rfl,{⋯,⋯,⋯},_,1,rfl,1,?_};refine tO (λ_=>?_) (λ_=>rest);refine{1,_,1,rfl,{⋯,⋯},?_};refine{2,1.0,1.0,cp (lo:=0) (n:=t.toNat) (λi σ b=>b=H/\∃d v4,σ=[ρ (.int c),ρ (.int t),ρ (.int m),ρ (.int d),v4,τ]) {rfl,_,τ,rfl} ?_ ?_}
 .rintro i σ b hi ⟨rfl,d,v4,rfl⟩;exact{1,_,1,rfl,{⋯,⋯},rfl,_,1}
 .rintro σ b ⟨rfl,d,v4,rfl⟩;exact{1,_,1,rfl,(by show (0:Int)<4999;decide),1,_,1,rfl,a,k _ (R8 _ 1.0) (QB _ a)}
theorem oy(L:Lk K mg):aH P w K mg base dk 2 L.jr L.jD ["_law_cell_here"] B3:=by
 have T:=L.T;refine L.jL.F.fG (N:=["_law_cell_here","_law_pool","_law_found","_law_turn","_law_sign"]) (λm A outer s H u Q E nd v h=>?_)
 let{c,rfl,k}:=h
 refine{_,yJ (i:=1) nd rfl rfl (pe (PS.F5 (ah (i:=2) ao))
  (pe (Az Sf rfl (cu rfl T.range (aB (ay eL a9 (ay dn (0) a9)))) (aj (i:=3))
    (wA (a:=1) (b:=4) (c:=2) nd rfl rfl rfl rfl rfl rfl (af (fL L) L.eE (a4 (ay lS (0) a9) (a4 (3) (aB (vv T.len (1)))))) rfl (λ_ _=>rfl)))
  (yw (PS.F5 (ai (2)))))),?_}
 have o:=R8 c (show (3:Int)≠0 by decide);have p:=QB c (show (0:Int)<3 by decide);refine{1,_,1,rfl,(by show (0:Int)<3;decide),_,1,rfl,1,1.0,1.0,?_};refine cp (lo:=0) (n:=(2+c%3).toNat) (λi σ f=>a7 H f/\∃d found g v4,σ=[ρ (.int c),ρ (.str d),ρ (.str found),g,v4]/\fA i d found) {a7.refl _,cK,"",τ,τ,rfl,fA.zero ∅} ?_ ?_
 .rintro i σ f hi ⟨j,d,found,g,v4,rfl,D⟩;have q:=D.pl;have r:=D.fl;refine{d,found,rfl,rfl,?_};refine{1,_,1,rfl,{⋯,⋯},2,d,rfl,aa 1.0,c/3,0+(i:Int),d.9,rfl,1.0,1.0,1.0,λe x y=>?_};have hd:e.toNat<(ch d).9:=by rw[au];omega
  have t:(ch d)[e.toNat]?=ρ (ch d)[e.toNat]:=by simp[hd]
  have l:=aw t;rw[show ((e.toNat:Nat):Int)=e by omega]at l;refine{e,1,1.0,1.0,l,j,_,_,_,1,?_};exact D.step ∅ (Tx hd)
 .rintro σ f ⟨j,d,found,g,v4,rfl,D⟩;exact{1,k found f (D.signs 1.0 1.0) j}
theorem rl(L:Lk K mg):aH P w K mg base dk 2 L.kS L.lq ["_law_cell_here","_law_signs_here"] Du:=by
 have T:=L.T;refine L.lz.F.fG (N:=["_law_cell_here","_law_signs_here","_law_long"]) (λB A outer s H U Q E nd V h=>?_)
 let{c,g,rfl,C,D,k}:=h
 refine{_,(a0 (ah (i:=2) (aF aM (fz (a4 a9 (a4 a9 (a4 a9 (a4 a9 (a4 a9 (a4 a9 (a4 a9 (aB a9))))))))) (af (fL L) L.eE (a4 (0) (a4 a9 (aB a9)))) (λ_ _=>rfl)))
  (a6 (ai (mC Qv Uq Ur vq ao (aB (cJ rfl (bg ["_law_signs_here","_law_cell_here"] [1,0]) (cu rfl T.range (aB (2))) (λ_ _ _ _ _ _=>cf) (λ_ _ _ _ _ _=>(aF fy (1) (af (fL L) L.eE (a4 (2) (a4 (ay eL a9 (ay ua a9 (0))) (aB (vv T.len (1)))))) (λ_ _=>rfl))))))))),?_}
 ac_rfl
 refine{⋯,λp G=>?_};refine⟨_,rfl,c,5,8,rfl,⋯,⋯,⋯,λd r u=>?_⟩
 let{n,hn,X,Y}:=Fn d r u
 refine{p,_,d,1,rfl,aK.of a5,hn,?_};refine{rfl,1,n,rfl,1.0,1.0,λl hl=>?_};refine yk (λy=>∃t,y=.str t/\∃o,t={#[o]}/\o∈ch g) (tT 0 n.toNat) hl (by rw[O5,T9];exact aa 1.0) (λ_ _=>trivial) (λx I Z hx s3 q=>?_) (λys J M a v j=>?_)
 .let{i,hi,rfl}:=Ol.mp hx
  have O:i<n.toNat:=Sv.mp hi;refine{3,_,1,rfl,.inl {⋯,⋯},_,1,rfl,1,g,rfl,aa 1.0,c,11+7*(0+(i:Int)),g.9,rfl,1.0,1.0,1.0,λf r u=>?_};have hd:f.toNat<(ch g).9:=by rw[au];omega
  have R:(ch g)[f.toNat]?=ρ (ch g)[f.toNat]:=by simp[hd]
  have z:=aw R;rw[show ((f.toNat:Nat):Int)=f by omega]at z;exact{g,f,1,rfl,aa 1.0,z,q _ I {_,rfl,1,Tx hd} (a7.refl _)}
 .let{b,rfl,e}:=vd v
  rw[O5,O5,T9]at a
  have m:(b.map (·.9)).sum=b.9:=by
   clear a j v
   induction b with
   |nil=>rfl
   |cons t b S=>
    let{o,rfl,_}:=e t (Ot ..)
    rw[Og,Pa,S λt h=>e t (Of _ h),Ov];show 1+b.9=_;omega
  refine{_,l,b,rfl,rfl,aK.of j,?_,?_}
  .rw[m];show b.9+b.9*0<=16777216;omega
  .exact k _ J (wI ∅ 1.0 1.0 e) ((a7.upd G).trans M)
theorem oz(L:Lk K mg):aH P w K mg base dk 3 L.js L.jE ["_law_script","_law_at","_law_signs_here","_law_most"] (B6 K):=by
 have T:=L.T;refine L.jM.F.fG (N:=["_law_script","_law_at","_law_signs_here","_law_most","_law_found","_law_k","_law_cell_here","_law_word_here"]) (λhH A outer s H vs Q E nd hr h=>?_)
 let{a,ns,p,g,m,rfl,hS,hp,NK,NM,M8,JI,k}:=h
 refine{_,(a0 (ah (i:=4) (fz mn))
  (a0 (forA (cu rfl T.range (aB (ay dn (af (dI L) L.di (a4 (0) (aB (1)))) (ay eL (3) a9)))) (aj (i:=5)) (a0 (ah (i:=6) (af (dI L) L.di (a4 (0) (aB (ay eL (ay eL (1) a9) (5))))))
  (a0 (ah (i:=7) (af (rl L) L.lz (a4 (6) (aB (2)))))
  (a0 (aG (PW.pt (qe (bE j7 (5) a9) (lP (bE dg (ay dn (6) a9) a9)))) (a6 (ah (i:=7) (cH k8 (ay av (cH k8 (aF aM (4) (Cb yA a9) (λ_ _=>rfl)) (dF a9) dD) (7)) dD (dF a9)))) aq)
  (a0 (aG (PW.pt (qe (bE j7 (5) a9) (lP (bE dg (ay dn (6) a9) a9)))) (a6 (ah (i:=7) (aF aM (4) a9 (λ_ _=>rfl)))) aq)
  (a6 (cb (mC RH RM Tw hQ (4) (aB (7))))))))))
  (a6 (ai (4))))),?_}
 ac_rfl
 refine{OZ _,λl hl=>?_};have s0:a7 H (upd H l (.lst [])):=a7.upd hl;have hq:=R8 (dR ns p) (show m+1≠0 by omega);have NN:=QB (dR ns p) (show 0<m+1 by omega);refine{2,a,ns,p,rfl,s0.seq hS,hp,1,_,1,rfl,_,1,rfl,(by show 0<m+1;omega),1,1.0,1.0,?_}
 refine cp (lo:=0) (n:=(dR ns p%(m+1)).toNat) (λi σ H2=>∃(ws:List Str) (v5 v6 v7:Option V),σ=[ρ (.ref a),ρ (.int p),ρ (.str g),ρ (.int m),ρ (.ref l),v5,v6,v7]/\a7 H H2/\H2 l=ρ (.lst (ws.map V.str))/\ws.9=i/\∀w∈ws,bJ g w)
  {[],τ,τ,τ,rfl,s0,a5,rfl,(λw h=>nomatch h)} ?_ ?_
 .rintro i σ H2 hi ⟨ws,v5,v6,v7,rfl,s2,h2,Ac,FV⟩;refine{2,_,1,rfl,1,_,1,rfl,a,ns,1,s2.seq hS,1.0,?_};generalize dR ns (p+1+(0+(i:Int)))=cc;refine{2,cc,g,rfl,M8,JI,λwd H3 BO s3=>?_};have h3:=s3 _ _ h2;have M9:a7 H H3:=s2.trans s3
  have fin:∀(wd:Str),bJ g wd->yp (HD K "list" pT (fu 4) (mc (fu 7) nU)) {nx:=λσ H2=>∃(ws:List Str) (v5 v6 v7:Option V),σ=[ρ (.ref a),ρ (.int p),ρ (.str g),ρ (.int m),ρ (.ref l),v5,v6,v7]/\a7 H H2/\H2 l=ρ (.lst (ws.map V.str))/\ws.9=i+1/\∀w∈ws,bJ g w,rt:=Q,ct:=λσ H2=>∃(ws:List Str) (v5 v6 v7:Option V),σ=[ρ (.ref a),ρ (.int p),ρ (.str g),ρ (.int m),ρ (.ref l),v5,v6,v7]/\a7 H H2/\H2 l=ρ (.lst (ws.map V.str))/\ws.9=i+1/\∀w∈ws,bJ g w}
   [ρ (.ref a),ρ (.int p),ρ (.str g),ρ (.int m),ρ (.ref l),ρ (.int (0+(i:Int))),ρ (.int cc),ρ (.str wd)] H3:=by
   intro wd BO;refine{1,.inl {rfl,_,aK.of h3},1,l,_,1,rfl,h3,by rw[O5];exact cR 1.0,?_};refine{ws++[wd],_,_,1,λb o e=>?_,?_,by simp[Ac],λw hw=>?_}
   .rw[a8 (ae e hl)];exact M9 _ _ e
   .rw[a5,OV];rfl
   .rcases P2.mp hw with z |z
    .exact FV w z
    .have:w=wd:=by simpa using z
     subst this;exact BO
  have second:∀(wd:Str),bJ g wd->yv (F4 (Eg (va (oF (xN λi j=>.bl (decide (j<i))) (fu 5) (tC (.int 0)))) (va (oF Jd (oF (rI (λ_ j=>0<j) λi j=>.int (i%j)) (fu 6) (tC (.int 16))) (tC (.int 2))))) (wm (oF (CF K) (fu 4) (tC (.int 0))) (gi 7)) C8)
   (yp (HD K "list" pT (fu 4) (mc (fu 7) nU))) {nx:=λσ H2=>∃(ws:List Str) (v5 v6 v7:Option V),σ=[ρ (.ref a),ρ (.int p),ρ (.str g),ρ (.int m),ρ (.ref l),v5,v6,v7]/\a7 H H2/\H2 l=ρ (.lst (ws.map V.str))/\ws.9=i+1/\∀w∈ws,bJ g w,rt:=Q,ct:=λσ H2=>∃(ws:List Str) (v5 v6 v7:Option V),σ=[ρ (.ref a),ρ (.int p),ρ (.str g),ρ (.int m),ρ (.ref l),v5,v6,v7]/\a7 H H2/\H2 l=ρ (.lst (ws.map V.str))/\ws.9=i+1/\∀w∈ws,bJ g w}
   [ρ (.ref a),ρ (.int p),ρ (.str g),ρ (.int m),ρ (.ref l),ρ (.int (0+(i:Int))),ρ (.int cc),ρ (.str wd)] H3:=by
   intro wd BO;refine{1,_,1,rfl,1,?_};refine tO (λzz=>?_) (λ_=>aC (fin wd BO));have Ma:0<i:=by have:(0:Int)<0+(i:Int):=of_decide_eq_true zz;omega
   refine{1,_,1,rfl,(by show (0:Int)<16;decide),rfl,1,?_};refine tO (λ_=>?_) (λ_=>fin wd BO);have FW:0<ws.9:=1.0;have e1:ws[0]?=ρ ws[0]:=by simp[FW]
   have e2:iY (ws.map V.str) ((0:Nat):Int)=ρ (.str ws[0]):=aw (by rw[OC,e1];rfl);exact{1,l,_,_,1,rfl,aK.of h3,e2,fin _ (FV _ (Tx FW))}
  refine{1,_,1,rfl,1,?_};refine tO (λzz=>?_) (λ_=>aC (second wd BO));have Ma:0<i:=by have:(0:Int)<0+(i:Int):=of_decide_eq_true zz;omega
  refine{1,_,1,rfl,(by show (0:Int)<4;decide),rfl,1,?_};refine tO (λ_=>?_) (λ_=>second wd BO)
  obtain⟨JK,wl,JL⟩:∃JK wl,ws=JK++[wl]:=by
   refine{ws.dropLast,ws.getLast (by intro z;rw[z]at Ac;simp at Ac;omega),(SD _).symm}
  have FX:bJ g wl:=FV wl (by rw[JL];exact Ow _ (Oz.mpr rfl));have e2:iY (ws.map V.str) (-1)=ρ (.str wl):=by rw[JL,OV];exact rC _ _
  have NP:=Ri wl (ρ 1) τ;have NQ:=FX.hi;have NR:=BO.hi;refine{2,l,_,_,1,rfl,aK.of h3,e2,1,wl,rfl,aa 1.0,1,_,1,rfl,aa 1.0,2,aa ?_,?_}
  .rw[<-au,ag,Oy,au,au];omega
  .exact second _ (yP FX BO)
 .rintro σ H2 ⟨ws,v5,v6,v7,rfl,s2,h2,Ac,FV⟩;exact{_,rfl,k l ws H2 s2 hl h2 1.0 FV}
theorem ft(L:Lk K mg):aH P w K mg base dk 4 L.fT L.fY ["_law_script","_law_at"] (Dx K):=by
 refine L.dv.F.fG (N:=["_law_script","_law_at","_law_signs_here","_law_words_here"]) (λy A outer s H I Q E nd J h=>?_)
 let{a,ns,p,rfl,f,z,k}:=h
 refine{_,(a0 (ah (i:=2) (af (oy L) L.jL (aB (af (dI L) L.di (a4 (0) (aB (1)))))))
  (a0 (ah (i:=3) (af (oz L) L.jM (a4 (0) (a4 (ay eL (1) a9) (a4 (2) (aB a9))))))
  (a6 (ai (gw (a4 (2) (a4 (3) (aB (mC Qv Uq Ur vq ao (aB (ay Dd (fz (a4 ao (aB (2)))) (3)))))))))))),?_}
 ac_rfl
 refine{2,a,ns,p,rfl,f,z,1,λg M sg j=>?_};have g2:=sg.lo;have O:=sg.hi;refine⟨_,rfl,_,rfl,_,_,rfl,rfl,_,rfl,a,ns,p+1,g,6,rfl,j.seq f,1.0,⋯,⋯,1.0,1.0,λl b m B f2 n C c=>?_⟩;refine{2,rfl,1,by show 2<=sizeLine;decide,λq d=>?_};have r:a7 m (upd m q (.lst [.str "band",.str g])):=a7.upd d;refine{1,q,l,_,1,rfl,a5,r _ _ n,by rw[O5];exact aa (by show 2+b.9<=_;omega),λD e=>?_};have u:=r.trans (a7.upd (o:=.lst ((("band":Str)::g::b).map V.str)) e);refine{_,D,"band" :: g::b,rfl,rfl,aK.of a5,?_,?_}
 .have v:=mO c;simp only[Og,Pa,Ov];rw[show (OM " ").9=1 from rfl,show (OM "band").9=4 from rfl];omega
 .have G:Tp (OM " ") ("band" :: g::b)=P6 SP ("band" :: g::b):=by
   rw[Ci];exact StrLaws.glued_eq_join _ _
  rw[G];refine{by show 3<=sizeLine;decide,λt x=>?_};exact k t l g b _ (j.trans (B.trans (u.trans (a7.upd x)))) a5 ((u.trans (a7.upd x)) _ _ n) sg 1.0 c
theorem eG(L:Lk K mg):aH P w K mg base dk 1 L.f5 L.fh ["_law_signs_here","_law_words_here","_law_length"] (Bh K):=by
 have T:=L.T;refine L.cY.F.fG (N:=["_law_signs_here","_law_words_here","_law_length","_law_found","_law_step","_law_longer","_law_row"]) (λhH A outer s H vs Q E nd hr h=>?_)
 let{g,lw,ws,n,rfl,hW,Il,Iz,JI,FT,hn,k}:=h
 refine{_,(a0 (ah (i:=3) (fz (aB ao)))
  (a0 (forA (cu rfl T.range (aB (2))) (aj (i:=4)) (a0 (ah (i:=5) (fz mn))
  (a0 (forA (bP (3)) (aj (i:=6)) (a6 (cb (mC RH Ui PySem.F.type_list_extend wC (5) (aB (cJ rfl (bg ["_law_row"] [6]) (gx (0)) (λ_ _ _ _ _ _=>cf) (λ_ _ _ _ _ _=>(ay av (1) (0)))))))))
  (a6 (ah (i:=3) (5))))))
  (a6 (ai (A3 rfl (xg (sc:=ak (top 111)) (N:=["_law_signs_here","_law_words_here","_law_length","_law_found","_law_step","_law_longer","_law_row"]) (ys:=["_law_words_here"]) (ix:=[1]) rfl rfl ∅) (bP (3)) (λ_ _ _ _ _ _=>ql (aY (aN (aD (wB (K:=K) rfl rfl) (by rfl) T.any Dm (aB (cJ rfl (mi (N:=["_law_row","_law_words_here"]) (ys:=["_law_row"]) (ix:=[0]) rfl rfl (by kernel_rfl)) (yB (K:=K) rfl (1)) (λ_ _ _ _ _ _=>cf) (λ_ _ _ _ _ _=>(bO eS (0) (1) rfl)))))))) (λ_ _ _ _ _ _=>(0))))))),?_}
 ac_rfl
 refine{by show 1<=sizeLine;decide,λl0 FW=>?_};refine{1,(n:Int),rfl,1.0,1.0,?_};rw[Pb];refine cp (lo:=0) (n:=n) (λi σ H2=>∃(l:Addr) (v3 v4 v5:Option V),σ=[ρ (.str g),ρ (.ref lw),ρ (.int (n:Int)),ρ (.ref l),v3,v4,v5]/\a7 H H2/\H l=τ/\H2 l=ρ (.lst ((rq g i).map V.str))) {l0,τ,τ,τ,rfl,a7.upd FW,FW,a5} ?_ ?_
 .rintro i σ H2 hi ⟨l,v3,v4,v5,rfl,s2,fl,h2⟩;have hlen:(rq g i).9<=1000:=by rw[je];exact Od (Qj 1.0 (Rw hi)) (Od Iz ⋯)
  have JM:∀r∈rq g i,r.9=i:=λr hr=>by rw[jd]at hr;exact qz i r hr
  refine{OZ _,λlm FU=>?_};have Mb:H lm=τ:=none_of s2 FU;have JN:a7 H2 (upd H2 lm (.lst [])):=a7.upd FU;refine{1,l,rfl,{_,aK.of (JN _ _ h2)},eR (K:=K) (a:=l) (xs:=(rq g i).map V.str) (λj σ H3=>∃v5,σ=[ρ (.str g),ρ (.ref lw),ρ (.int (n:Int)),ρ (.ref l),ρ (.int (0+(i:Int))),ρ (.ref lm),v5]/\a7 H2 H3/\H3 lm=ρ (.lst ((((rq g i).take j).flatMap λr=>(ch g).map λc=>r++({#[c]}:Str)).map V.str))) {_,rfl,JN,a5} (λj σ H3 _ {_,_,s3,_}=>aK.of (s3 _ _ h2)) ?_ ?_}
  .rintro j y σ H3 hy ⟨v5,rfl,s3,h3⟩
   let{r,NS,rfl,hj,Md,xP}:=gD hy
   have FY:=JM r Md;refine{1,.inl {rfl,_,aK.of h3},1,g,rfl,λlc IA=>?_};refine comp_map (λv=>match v with |.str z=>.str (r++z) |_=>.non) (d9 g) IA (by rw[iP];exact aa 1.0) (λ_ _=>trivial) (λz H4 Q' hz s4 qq=>?_) (λH4 s4 h4=>?_)
   .let{c,hc,rfl}:=Ol.mp hz
    exact{2,_,1,rfl,aa (by show r.9+1<=_;omega),qq H4 (a7.refl _)}
   have e4:(b2 g).map (λv=>match v with |.str z=>V.str (r++z) |_=>.non)=((ch g).map λc=>r++({#[c]}:Str)).map V.str:=by
    unfold b2;rw[OS,OS];rfl
   rw[e4]at h4
   have IB:((rq g i).take (j+1)).flatMap (λr=>(ch g).map λc=>r++({#[c]}:Str))=(((rq g i).take j).flatMap λr=>(ch g).map λc=>r++({#[c]}:Str))++(ch g).map λc=>r++({#[c]}:Str):=by
    rw[xP,List.flatMap_append];simp
   have NU:((((rq g i).take j).flatMap λr=>(ch g).map λc=>r++({#[c]}:Str))).length<=1000*10:=Od (su _ g.length _ λr _=>by rw[O5,au];exact Ob _) (Nat.mul_le_mul (by rw[OT];omega) FT);refine{lm,lc,_,1,rfl,s4 _ _ h3,h4,?_,?_}
   .rw[O5,O5,O5,au];exact aa 1.0
   .refine{1,λb oo e=>?_,?_}
    .rw[a8 (ae e FU)];exact s4 _ _ (s3 _ _ e)
    .rw[a5,IB,OV]
  .rintro σ H3 ⟨v5,rfl,s3,h3⟩;rw[O5,Pu]at h3;exact{1,lm,_,_,1,s2.trans s3,Mb,h3}
 .rintro σ H2 ⟨l,v3,v4,v5,rfl,s2,fl,h2⟩;have JM:(rq g n).9<=100:=by rw[je];exact Iz
  have Mf:(rq g n).filter (λr=>!bears ws r)=c6 g ws "" n:=by
   rw[<-lX];exact Vu λr _=>by rw[jc]
  refine{1,l,rfl,{_,aK.of h2},λlg JO=>?_};refine hK (λv=>match v with |.str r=>!bears ws r |_=>false) (λv=>v) (cm K l ((rq g n).map V.str)) JO (by rw[O5];exact aa 1.0) (λH' s'=>aK.of (s' _ _ h2)) (λy H6 Q' hy s6 qq=>?_) (λy H6 Q' hy _ s6 qq=>{1,qq H6 (a7.refl _)}) (λH6 s6 h6=>?_)
  .let{r,hr,rfl}:=Ol.mp hy
   have JP:=(s2.trans s6).seq hW;refine{1,lw,rfl,{_,JP},λlb Mg=>comp_map (FA r) (cm K lw (ws.map V.str)) Mg (by rw[O5];exact aa 1.0) (λH' s'=>s'.seq JP) (λz H3 Q3 hz _ q=>?_) (λH' s' JQ=>?_)}
   .let{c,1}:=Ol.mp hz
    exact{2,_,1,rfl,q H3 (a7.refl _)}
   .rw[sC]at JQ;refine{lb,1,aK.of JQ,1,?_};rw[Tl];exact qq H' s'
  rw[Vf,gE (λr=>!bears ws r) _ (λr=>rfl),Mf]at h6;exact k lg H6 (s2.trans s6) (none_of s2 JO) h6
theorem Dw.past{H l:Hp}{t1 w1 t2 w2 ll x C p:Addr}{g1 g2:Str}{g j:List Str}{r t:Nat}{v:V}(S:Dw H t1 w1 t2 w2 ll g1 g2 g j r t)(hx:H x=ρ (ke C p v))(kp:∀c o,H c=ρ o->c≠x->l c=ρ o):Dw l t1 w1 t2 w2 ll g1 g2 g j r t:=by
 have ne:∀{c:Addr} {o:HO},H c=ρ o->ke C p v≠o->c≠x:=λe n z=>n (Oc (hx.symm.trans (z ▸ e)));exact{kp _ _ S.t1 (ne S.t1 (λz=>nomatch z)),kp _ _ S.w1 (ne S.w1 (λz=>nomatch z)),kp _ _ S.t2 (ne S.t2 (λz=>nomatch z)),kp _ _ S.w2 (ne S.w2 (λz=>nomatch z)),kp _ _ S.ll (ne S.ll (λz=>nomatch z))}
theorem ky{K:O4}{C CB J CR CE T U CW:Addr}{H:Hp}{x I:Addr}{v:V}{g:Str}{ws:List Str}{Q:VK}{E:XK}(hx:H x=ρ (ke C I v))(sg:bZ g)(ul:ws.9<=6)(wd:∀w∈ws,bJ g w)
 (k:∀(t:Addr) (ss ls:List Str) (j:Hp),(∀c o,H c=ρ o->c≠x->j c=ρ o)->j x=ρ (ke C I (.ref t))->b7 CB (dN H j) t g ws ss ls->∀l,a7 j l->Q (.bl true) l):gL K C CB J CR CE T U CW [.ref x,.str (P6 SP ("band" :: g::ws)),.str "ok"] H Q E:=by
 have f:=mO wd;have h:=sg.hi;refine{x,I,v,_,"ok","band" :: g::ws,rfl,hx,rfl,λp d=>?_,?_,by rw[Ov,Ov];omega,.bok g ws rfl sg ul wd λt ss ls j a b c=>{rfl,k t ss ls j a b c}}
 .rcases Oi.mp d with rfl |d
  .decide+kernel
  rcases Oi.mp d with rfl |d
  .exact ji sg
  .exact m4 sg (wd p d)
 .rw[zt,Og,Pa]
  have:∀ws:List Str,(ws.map λz=>1+z.9).sum=ws.9+(ws.map (·.9)).sum:=λws=>by
   induction ws with
   |nil=>rfl
   |cons w r e=>
    simp only[Og,Pa,Ov,e];omega
  rw[this];show 4+(1+g.9+_)<=1000;omega
end
section
variable{K K:O4}{CX:Addr}{H H':Hp}{Q:VK}{nm:Str}
theorem IC{C:Addr}(U:aT K C CX nm)(k:Jx C H Q):∀H',a7 H H'->kJ K CX Q (.ref C) τ H':=λ_ a=>{C,nm,rfl,U,λe p b c _ d f=>k e p b (a.trans c) d f}
theorem GB{C:Addr}{f:Str}{i:Int}(U:aT K C CX nm)(k:Lf C f i H Q):eT C f i H (kJ K CX Q):=λd _ b _ h=>{C,nm,rfl,U,λe p c a _ g j=>k e d p c (b.trans a) g (a _ _ h) j}
end
section
variable{K K:O4}{CD CB CN CR CE CS CT CW CX:Addr}{H:Hp}{x dx xb:Addr}{g:Str}{ws ss ls:List Str}{Q:VK}{E:XK}{nm:Str}
theorem dG.over(A:dG CD CB H x dx xb g ws ss ls){n q:Nat}(hn:n<=200)(j:q<10^10)(h:(c6 g ws "" n).9<=q)(U:aT K CN CX nm)(k:Jx CN H Q):m6 K CD CB CN CR CE CS CT CW CX [.ref x,.str (("row ":Str)++aE n++(" ":Str)++aE q)] H Q E:=
 {x,dx,_,_,["row",aE n,aE q],rfl,A.hx,z7 _ _,row_free n q,vL hn j,(show 3<=1000 by decide),A.say (.inr (.inr (.inl {n,q,rfl,rfl,hn,j,by rw[A.cnt];omega,IC U k})))}
end
end K60
namespace JR
open PyProof.Rows PySem.W PySem.Calls
theorem lJ:∀(ns:List Int) (vs:List Value),WellAll P h vs (ns.map WData.int)->IntsAre vs ns:=by
 intro ns
 induction ns with
 |nil=>
  intro vs w;rw[Rf]at w;cases w;exact .nil
 |cons n ns c=>
  intro vs w;rw[Og]at w
  cases w with
  |cons a b=>
   cases a;exact .cons _ _ (c _ b)
theorem xI{l:Sl}{n:Nat}(hn:l.most=ρ n){P:Params}{h:Heap}{args:List WData}{g:List Value}
 (j:l.row.toRowW.claim.pre args=true) (o:WellAll P h g args) :
 ∃a vs ns,g=[Oh a]/\args=[WData.list (ns.map WData.int)]/\h.get? a=ρ {cls:=.type "list",data:=.seq vs.6}/\IntsAre vs ns/\ns.9<=n:=by
 have i:WShape.hasAll [] args [.list .int]=true:=(pre_splitW j).1;have hc:l.pre.holds [] {args:=args}=true:=(pre_splitW j).2
 let{d,r,rfl,k,m}:=hasAllW_cons i
 obtain rfl:=hasAllW_nil m
 let{u,rfl,p}:=hasW_list k
 let{ns,rfl}:=items_int p
 have b:ns.9<=n:=by
  unfold OpenLaw.pre at hc
  have e:(WTm.not (.lt (.lit (.int (n:Int))) (.len (.arg 0)))).holds [] {args:=[.list (ns.map .int)]}=true:=by
   have e:=(holds_andW hc).1;rw[hn]at e;exact e
  have f:=condW_of e (w_not (w_lt w_lit (w_len_list (w_arg rfl))));rw[O5]at f;refine VM λq=>?_;have s:(n:Int)<((ns.9:Nat):Int):=1.0
  first
   |(rw[decide_eq_true s]at f;exact absurd f ⋯)
   |(simp at f;omega)
 cases o with
 |cons w1 w2=>
  cases w2
  cases w1 with
  |list t c=>exact{_,_,ns,rfl,rfl,t,lJ ns _ c,b}
theorem xJ(l:Sl)(args:List WData):l.row.toRowW.claim.post args (.bool true) args=true:=
 postW_of (r:=l.row.toRowW) (X:=(true==true))
  (show WShape.has [] (.bool true) .bool=true by first |rfl |decide |simp[WShape.has,WShape.arms,WShape.armsAll])
  (show (WTm.eq .res (.lit (.bool true))).value [] {args:=args,res:=ρ (.bool true),after:=args}=ρ (.bool (true==true)) from w_eq_bool (w_res rfl) w_lit) rfl
theorem tu{l:Sl}{n:Nat}{q:Om}{loose:List Str}{XP:(Str->Option Value)->Heap->Prop}{YP:World->Heap->Prop}{d:DefRec}
 (hn:l.most=ρ n) (t:d.params.defaults=[])
 (call:∀(w:World) (s₀ g:Shared) (mg C:Str->Option Value) (p:Addr) (o:Obj) (pm cd j:Value) (a:Addr) (vs:List Value) (ns:List Int),
   Ground q loose [] XP w s₀ mg C g.heap->YP w g.heap ->
   g.heap.get? p=ρ o->o.data=.func (docDef d.name d.params d.body d.scope pm cd j)->g.heap.CodeRec cd d.name->mg d.name=ρ (.ref p) ->
   g.heap.get? a=ρ {cls:=.type "list",data:=.seq vs.6}->IntsAre vs ns->ns.9<=n->g.gens=#[] ->
   codeAny (model l.prog w) callerA (.call (.ref p) {[.ref a],[]}) (λr s'=>r=.ok (.ret (.bool true))/\OldK g.heap s'.heap/\s'.os=g.os/\AllBare s'.gens) g) :
 VN q loose XP YP l.row.toRowW d [] (λf vs=>VW f vs):=by
 intro w s₀ g mg C G Y p o pm cd j x kV y hd i s k z args u as c v A m B;obtain rfl:x=.none:=Dflts.none s t;obtain rfl:kV=.none:=Dflts.noKw s
 let{a,vs,ns,rfl,rfl,e,b,h}:=xI hn c m
 refine enter_call (Qy (call w s₀ g mg C p o pm cd j a vs ns G Y y (fd_plain hd) i k e b h z) λr s' D=>?_)
 let{rfl,E,H,I}:=D
 exact{.inl {.bool true,.bool true,[],rfl,λ_=>rfl,.bool true,xJ l _,λ_=>{List.Pairwise.nil,λ_ J=>(nomatch J)}},E,H,I}
end JR
namespace _L
open PySem.Spec PyProof.Rows PySem.Calls Builtin.Str
section
variable{X:Cx}
theorem pN:∀l:List (Str×Tok),Vals ((l.map (·.1)).map V.str) (strValues l)
 |[]=>.nil
 |p::l=>.cons ⟨p.2,rfl⟩ (pN l)
theorem A5:D3 X "str.split" (λx xs H Q=>∃r c,x=.str r/\xs=[.str {#[c]}]/\r.9<=1000000/\∀l,H l=τ->Q (.ref l) (upd H l (.lst ((TY r {#[c]}).map V.str)))):=by
 intro b s σ H x xs v z Q I n o h
 let{r,c,rfl,rfl,p,q}:=h
 let{t,rfl}:=n
 let{u,rfl,w}:=o.one
 let{f,rfl}:=w
 have j:(({#[c]}:Str).length==0)=false:=rfl
 have key:∀(l:List (Str×Tok)) (g:Nat),l.map (·.1)=TY r {#[c]}->l.9<=sizeLine->∃y k,Inv X b σ k {s with heap:=s.heap.push {cls:=.type "list",data:=.seq (strValues l).6},toks:=g}/\RelV y (.ref s.8)/\Q y k:=λl g e hl=>by
  have m:=pN l;rw[e]at m;exact{.ref _,_,I.F7 (t':=g) m (by rw[O5,<-e,O5];exact hl),rfl,q _ I.fresh}
 have i:r.9<=sizeLine:=Od p (by rw[QI];decide);cases a:(decide (r.9<(⟨#[c]⟩:Str).length) ||decide (strKind r<strKind ⟨#[c]⟩))
 .cases d:(occurrences r ⟨#[c]⟩ 0 r.length (r.9+1)).isEmpty
  .have hn:(partsBetween r (occurrences r {#[c]} 0 r.length (r.9+1)) ({#[c]}:Str).length).9<=sizeLine:=by
    rw[Th];have:=StrLaws.occ_length_le r {#[c]} 0 r.length (r.9+1);have e:=QI;omega
   refine Tf RF (R6 _ _ _) Tc (SR _ _) (meets_str_split_sep r {#[c]} t f a j d i hn) ?_;show wants _ _ _ {s with toks:=_,heap:=s.heap.push {cls:=.type "list",data:=.seq (strsFrom s.toks (partsBetween r (occurrences r {#[c]} 0 r.length (r.9+1)) ({#[c]}:Str).length)).6}};rw[strsFrom_eq];refine key (numbered s.toks _) _ ((numbered_texts _ _).trans ((if_neg (ne_true_of_eq_false a)).trans (if_neg (ne_true_of_eq_false d))).symm) ?_;have:=congrArg Rp (numbered_texts s.toks (partsBetween r (occurrences r {#[c]} 0 r.length (r.9+1)) ({#[c]}:Str).length));rw[O5]at this;rw[this];exact hn
  .exact Tf RF (R6 _ _ _) Tc (SR _ _) (meets_str_split_not_found r {#[c]} t f a j d) (key [(r,t)] s.toks ((if_neg (ne_true_of_eq_false a)).trans (if_pos d)).symm (by show 1<=sizeLine;decide))
 .exact Tf RF (R6 _ _ _) Tc (SR _ _) (meets_str_split_cannot_occur r {#[c]} t f a) (key [(r,t)] s.toks (if_pos a).symm (by show 1<=sizeLine;decide))
theorem ia:cP X (.type "int") (λxs H Q=>∃n:Nat,xs=[.str (_B.aE n)]/\n<10^10/\Q (.int (n:Int)) H):=by
 intro a s σ H xs c Q I r h
 let{n,rfl,hn,q}:=h
 let{u,rfl,b}:=vals1 r
 let{t,rfl}:=b
 exact PySem.W.KIN.call_num (n:=(n:Int)) 1.0 1.0 {.int (n:Int),H,I.tok _,{_,rfl},q}
theorem bY:cP X (.type "str") (λxs H Q=>∃i:Int,xs=[.int i]/\i.natAbs.log2<1920/\Q (.str (OM (toString i))) H):=by
 intro a s σ H xs c Q I r h
 let{i,rfl,hl,q}:=h
 let{u,rfl,b}:=vals1 r
 let{t,rfl}:=b
 exact P.str_of_int hl {.str (OM (toString i)),H,I.tok _,{_,rfl},q}
end
end _L
namespace PySem.SeqAt
open MeetsSeq
theorem oA{M:TK}{A:Around}{E:Value->Shared->Prop}{s:Shared}{Q:Bool->Shared->Prop}{id:String}{l:Addr}{ep:Nat}{dd:Option Addr}{sl:Array (Option Value)}(j:(l==Q8)=false)
 (hl:s.heap.get? l=ρ {cls:=.type "dict",dict:=dd,data:=.dict #[] ep,slots:=sl}) (h:Q true s):wpAny M A (Ua id l l) Q E s:=by
 let{a,g,d,b,os}:=s
 unfold Ua;simp only[UW]
 wp_walk using wpAny_loadPart' hl,wpAny_load hl
 exact h
theorem oB(l:Addr)(ep:Nat)(dd:Option Addr)(sl:Array (Option Value))(j:(l==Q8)=false) :
 Meets (RQ.«dict.__eq__» {[.ref l,.ref l],[]}) (λ_ R s=>s.heap.get? l=ρ {cls:=.type "dict",dict:=dd,data:=.dict #[] ep,slots:=sl}/\R (.ok (.ret (.bool true))) s):=
 .of_wp λprog w A R s h=>by let{a,g,d,b,os}:=s;let{hl,h}:=h;have f1:=F.sub_dict_dict;wp_walk using oA j hl,wpAny_loadPart' hl,wpAny_load hl;exact{_,rfl,h}
section
variable{A:Around}{s:Shared}
theorem RcAt.xK(g:s.heap.get? l=ρ o)(hx:o.cls=.type "dict")(hd:o.data=.dict #[] ep)(j:(l==Q8)=false)(p:A.units<Rq):RcAt A s (.ref l) (.ref l) true:=λprog w E Q h=>by
 let{cls,a,data,sl}:=o
 simp only at hx hd;subst hx hd
 exact richCompare_meets_room (op:=.Eq) {_,g,rfl} {_,g,rfl} F.slot_dict_eq F.entry_dict_eq (F.args_dict_eq_2 _ _) (oB l ep a sl j)
  {g,show Td true≠Value.notImplemented/\Q (.bool true) s from {(λx=>nomatch x),h}} p
end
end PySem.SeqAt
namespace _S
structure IE(K:O4)(C CB:Addr)(nm:Str):Prop where
 lk:∃(q:Str) (N:Addr) (bs:List Value) (sn:List Str) (sub:List Value) (ab:Bool) (col:Option Bool) (dd:Option Addr) (k0 k1 k2 k3 k5:Option Value),
  K.lookup C=ρ (PB nm q C N bs (m5 CB) true sn sub ab col dd k0 k1 k2 k3 k5 "ValueError.__new__")
theorem w4
 (l:K.lookup C=ρ (PB nm q C N bs (m5 CB) true sn sub ab col dd k0 k1 k2 k3 k5 "ValueError.__new__")):IE K C CB nm:=⟨q,N,bs,sn,sub,ab,col,dd,k0,k1,k2,k3,k5,l⟩
theorem BP
 (l:K.lookup CB=ρ (PB nm q CB N bs FG hd sn sub ab col dd k0 k1 k2 k3 k5 "ValueError.__new__")):zy K CB nm:=⟨q,N,bs,hd,sn,sub,ab,col,dd,k0,k1,k2,k3,k5,l⟩
end _S
namespace K60
section
variable{P:Om}{w:World}{K:O4}{mg:Str->Option Value}{base:Heap}
theorem jP(L:Lk K mg):aH P w K mg base dk 2 L.kP L.kZ ["word"] DF:=by
 have T:=L.T;refine L.gZ.F.fG (N:=["word"]) (λa A outer s H d Q E nd e h=>?_)
 let{n,rfl,hn,k}:=h
 refine{_,(a6 (ai (gz (af (jO L) L.gY (aB (0))) (k7 (bO EW (aL ia (by rfl) T.int yY (aB (0))) (c9 (v:=.int 200) (by rfl) L.om.choose_spec {_,rfl}) (fv _)))))),?_}
 ac_rfl
 refine{1,n,rfl,1.0,λb c=>{true,rfl,bH {1,n,rfl,1.0,_,1,rfl,?_}}};rw[decide_eq_true (show (n:Int)<=200 by omega)];exact k b c
theorem tD(L:Lk K mg):aH P w K mg base dk 3 L.nh L.nH ["first","others"] (zr K):=by
 have T:=L.T;refine L.nL.F.fG (N:=["first","others"]) (λi A outer s H p Q E nd q h=>?_)
 let{f,os,a,rfl,c,hl,l,k}:=h
 refine{_,(a0 (aG (bE dg (0) ao) (a6 (ai (bO j7 (Aa T.len (1)) a9 (fv _)))) aq)
  (a0 (aG (bE dg (0) ao) cq aq)
  (a0 (aG (hO hP (0) (gw (a4 ao (aB ao))) rfl) (a6 (ai (bO dg (Aa T.len (1)) a9 (fv _)))) aq)
  (a0 (aG (bE dg (0) ao) (a6 (ai (gz (bO dg (Aa T.len (1)) a9 (fv _)) (k7 (af (jP L) L.gZ (aB (aF aM (1) a9 (λ_ _=>rfl)))))))) aq)
  (a0 (aG (bE dg (0) ao) (a6 (ai (gz (bO dg (Aa T.len (1)) a9 (fv _)) (gz (af (jP L) L.gZ (aB (aF aM (1) a9 (λ_ _=>rfl)))) (k7 (af (jO L) L.gY (aB (aF aM (1) a9 (λ_ _=>rfl))))))))) aq)
  (a0 (aG (hO hP (0) (gw (a4 ao (aB ao))) rfl) cq aq)
  (a6 (ai bI)))))))),?_}
 ac_rfl
 cases l with
 |band o os=>
  refine{1,rfl,true,∅,bH {1,a,1,.inl c,_,1,rfl,?_}};rw[decide_eq_true (by rw[O5,Ov];lia)];exact k H (a7.refl _)
 |number r=>
  exact{1,rfl,false,∅,aC {1,rfl,false,∅,aC {1,by show 2<=sizeLine;decide,λt b=>{t,1,.inr (eI.of a5),rfl,rfl,true,∅,bH {1,a,1,.inl ((a7.upd b).seq c),rfl,k _ (a7.upd b)}}}}}
 |count n hn=>
  exact{1,rfl,false,∅,aC {1,rfl,false,∅,aC {1,by show 2<=sizeLine;decide,λt b=>{t,1,.inr (eI.of a5),rfl,rfl,false,∅,aC {1,rfl,true,∅,bH {1,a,1,.inl ((a7.upd b).seq c),rfl,true,rfl,bH {1,a,_,_,1,rfl,(a7.upd b).seq c,aw (j:=0) rfl,n,rfl,hn,λd e=>k d ((a7.upd b).trans e)}}}}}}}
 |row n m hn hk=>
  exact{1,rfl,false,∅,aC {1,rfl,false,∅,aC {1,by show 2<=sizeLine;decide,λt b=>{t,1,.inr (eI.of a5),rfl,rfl,false,∅,aC {1,rfl,false,∅,aC {1,rfl,true,∅,bH {1,a,1,.inl ((a7.upd b).seq c),rfl,true,rfl,bH {1,a,_,_,1,rfl,(a7.upd b).seq c,aw (j:=0) rfl,n,rfl,hn,λu g=>{true,rfl,bH {1,a,_,_,1,rfl,g.seq ((a7.upd b).seq c),aw (j:=1) rfl,m,rfl,hk,λd e=>k d ((a7.upd b).trans (g.trans e))}}}}}}}}}}
end
end K60
namespace _L
open PySem.Spec PyProof.Rows PySem.W
section
variable{t:Nat}{C:Addr}
noncomputable abbrev ck(C t:Addr):Obj:={cls:=.ref C,data:=.fields #[.ref t,.none,.none,.none,.bool false,.none]}
noncomputable abbrev kA(vs:List Value):Obj:={cls:=.type "tuple",data:=.seq vs.6}
end
end _L
namespace _L
open PySem.Spec PyProof.Rows
section
variable{X:Cx}
theorem BQ{l:Sl}{n k:Nat}{q:Om}{loose:List Str}{XP:(Str->Option Value)->Heap->Prop}{YP:World->Heap->Prop}{d:DefRec}{K:Params->O4}{CX:World->we}{sp:World->Sp}{x:Str}
 (hn:l.most=ρ n) (r:n<=sizeLine) (t:d.params.defaults=[]) (J:bA k callerA)
 (U:∀(w:World) (h:Heap),YP w h->(K w.params).In h)
 (F:∀(w:World) (mg:Str->Option Value) (p:Addr) (h:Heap),(K w.params).In h->h.Ns OG mg->mg d.name=ρ (.ref p) ->
   ∃fd:P0,(∀(s:Shared) (u:Value),BindsTo s fd {[u],[]} [(x,u)]) /\
    ∀base:Heap,(K w.params).In base->base.Ns OG mg->aH l.prog w (K w.params) mg base (CX w) k p fd [x] (sp w))
 (C:∀(w:World) (H:Hp) (a:Addr) (ns:List Int),ns.9<=n->Only H->aK (K w.params) H a (ns.map V.int)->sp w [.ref a] H (λv _=>v=.bl true) λ_ _ _=>False)
 (I:∀(w:World) (H:Hp) (s:Shared) (e:Value) (s':Shared),CX w [] H s (λ_ _ _=>False) e s'->False) :
 VN q loose XP YP l.row.toRowW d [] (λf vs=>VW f vs):=by
 refine JR.tu hn t λw z j mg Q p o pm R B a vs ns G Y S hd D y m i c E=>?_;have A:=U w _ Y
 let{fd,L,M}:=F w mg p _ A G.T.g y
 exact yt A G.T.g G.T.b G.T.builtins G.T.nolimit E m i (Od c r) J M L (λH N O=>C w H a ns c N O) λH e s'=>I w H j e s'
noncomputable def XN(x C:Addr):HO:=.ext λh=>∃t,h.get? x=ρ (ck C t)
def DR(K:O4)(CB:Addr)(t:TA):TE:=λσ H Q=>t σ H λvs H1=>∃x C nm m,vs=[.ref x,m]/\H1 x=ρ (XN x C)/\aT K C CB nm/\Q .non H1
def DS(K:O4)(C:Addr)(sp:Sp)(E:XK)(t:TA):TS:=λ_ σ H=>t σ H λvs H1=>vs.9<=sizeLine/\∀x,H1 x=τ ->
 sp (.ref x::vs) (upd H1 x (XN x C)) (λv H2=>v=.non/\((H2 x=ρ (XN x C)/\E (.ref C) τ (del H2 x))\/∃d,H2 x=ρ (XD x C d)/\E (.ref C) (ρ d) (del H2 x))) E0
theorem DT(l:X.A.units<Rq):ie X (Pj .Eq) (λx y H Q=>x=y/\Thing H x/\Q (.bl true) H):=by
 intro i s σ H x y v u Q I d g h
 let{rfl,m,q}:=h
 have fin:EP X i σ Q (.bool true) s:={.bl true,H,I,rfl,q}
 cases m with
 |flat f=>
  cases x with
  |non=>cases d;cases g;exact SeqAt.RcAt.none_none _ _ _ _ fin
  |bl b=>cases d;cases g;exact SeqAt.RcAt.bool_bool b b _ _ _ _ (by simpa using fin)
  |int b=>let{t,rfl}:=d;let{k,rfl}:=g;exact SeqAt.RcAt.int_int b t b k _ _ _ _ (by simpa using fin)
  |str b=>let{t,rfl}:=d;let{k,rfl}:=g;exact SeqAt.RcAt.str_str b t b k _ _ _ _ (by simpa using fin)
  |_=>exact absurd (show false=true from f) Oj
 |@lst a n ha f=>
  cases d;cases g
  let{c,r,pl,p}:=I.list (aK.of (K:=X.K) ha)
  exact VP (e:=λ_=>true) pl.isList pl.isList rfl l (λj _ _=>TQ _) (by rw[show ((PL c.toArray.size).all λ_=>true)=true from OD.mpr λ_ _=>rfl];exact fin)
 |@tup a n ha f=>
  cases d;cases g
  let{c,r,pl,p}:=I.tuple (eI.of (K:=X.K) ha)
  exact SeqAt.eq_tupleAt (e:=λ_=>true) pl pl l (λj _ _=>TQ _) (by rw[show ((PL (min c.toArray.size c.toArray.size)).all λ_=>true)=true from OD.mpr λ_ _=>rfl,beq_self_eq_true];exact fin)
 |@dic a ha=>
  cases d;cases g
  let{o,D,w,z,B,C}:=DP I ha
  exact SeqAt.RcAt.xK w z B C l _ _ _ _ fin
end
section
variable{prog:Om}{w:World}{A:Around}{R:S1->Shared->Prop}{h:Heap}{g:Array Rr}{d:Drawn}{t:Nat}{os:Pn}{nm q:Str}{C CB N:Addr}{bs:List Value}{hdct:Bool}{sn:List Str}{sub:List Value}{ab:Bool}{col:Option Bool}{dd:Option Addr}{k0 k1 k2 k3 k5:Option Value}
theorem A6{rest:List Value}{init:Value}{p:Around}(l:h.get? C=ρ (PB nm q C N bs (m5 CB) hdct sn sub ab col dd k0 k1 k2 k3 k5 "ValueError.__new__"))
 (hi:Looks (model prog w) h (Te (.ref C) "__init__") (ρ init)) (J:∀self,Looks (model prog w) h (bindSpecial init self) (init,[self])) (j:rest.9<=sizeLine)
 (T:codeAny (model prog w) p (.call init {.ref (h.7+1)::rest,[]}) (InitBack (h.7+1) R) {(h.push (kA rest)).push (ck C h.7),g,d,t,os}) :
 wpAny (model prog w) p (RQ.«type.__call__» {.ref C::rest,[]}) (λfin s'=>match fin with |.done f=>R (.ok f) s' |.again I=>I.quiet=true/\codeAny (model prog w) A I R s') (λe s'=>R (.error e) s') ⟨h,g,d,t,os⟩:=by
 have F:=Qb
 repeat (first |with_reducible refine Pg l ?_ |with_reducible refine wpAny_madeBy_exc l ?_ |wp_step)
 refine codeAny_call_builtin_code (SK _ F.quiet) (Bt l ?_);refine Bu l ?_ j;show wpAny _ _ _ _ _ _;have k:∀b o,h.get? b=ρ o->((h.push (kA rest)).push (ck C h.7)).get? b=ρ o:=λb o e=>O9 _ (O9 _ e)
 have a:=O9 {cls:=.ref C,data:=.fields #[.ref h.7,.none,.none,.none,.bool false,.none]}
  (O9 {cls:=.type "tuple",data:=.seq rest.6} l)
 have c:((h.push {cls:=.type "tuple",data:=.seq rest.6}).push {cls:=.ref C,data:=.fields #[.ref h.7,.none,.none,.none,.bool false,.none]}).get? (h.7+1)=ρ {cls:=.ref C,data:=.fields #[.ref h.7,.none,.none,.none,.bool false,.none]}:=by heap_get
 have i:(Oh C::m5 CB).contains (.ref C)=true:=by simp
 have m:=hi.keeps k;have n:=(J (.ref (h.7+1))).keeps k;unfold Ti
 repeat (first |with_reducible refine Pg c ?_ |(with_reducible refine Qs a ?_;rw[i]) |wp_step)
 show wpAny _ _ (Te (.ref C) _) _ _ _;refine m.at ?_;refine Qq (O6 (n.at ?_));refine O6 (Qw (Qy T λr s' z=>?_));rcases r with e |(v |_ |_ |_)<;>first |exact z |exact z.elim |skip
 let{rfl,z}:=z
 wp_walk
 exact z
theorem tE{rest:List Value}{init:Value}(l:h.get? C=ρ (PB nm q C N bs (m5 CB) hdct sn sub ab col dd k0 k1 k2 k3 k5 "ValueError.__new__"))
 (hi:Looks (model prog w) h (Te (.ref C) "__init__") (ρ init)) (o:∀self,Looks (model prog w) h (bindSpecial init self) (init,[self])) (j:rest.9<=sizeLine)
 (p:codeAny (model prog w) (A.under (.builtin "type.__call__" {.ref C::rest,[]})) (.call init {.ref (h.7+1)::rest,[]}) (InitBack (h.7+1) R) {(h.push (kA rest)).push (ck C h.7),g,d,t,os}) :
 codeAny (model prog w) A (.call (.ref C) {rest,[]}) R ⟨h,g,d,t,os⟩:=by
 have f1:=tc_lookup;have f2:=PySem.tc_bind (.ref C);have a:(⟨h,g,d,t,os⟩:Shared).TypeIs (.ref C) "type":={_,l,rfl};refine codeAny_of_tree ?_;show wpAny _ _ (callAny (.ref C) _) _ _ _
 repeat (any_goals (first |assumption |with_reducible refine Pg l ?_ |wp_step))
 refine{rfl,?_};exact codeAny_call_builtin_at (SK _ ∅) entry_typeCall (wpAny_check_type_call_sub l (A6 l hi o j p))
end
section
variable{CB C:Addr}{name:Str}{ta tv:TE}
def FZ(K:O4)(CB:Addr)(ta tv:TE)(name:Str):TS:=λD σ H=>tv σ H λy H1=>ta σ H1 λz H2=>∃x C nm,z=.ref x/\H2 x=ρ (XN x C)/\aT K C CB nm/\findIn K (.ref C) name=ρ τ /\
 ∀d,H2 d=τ->D.nx σ (upd (upd H2 d (.xd [(name,y)])) x (XD x C d))
end
section
variable{P:Om}{w:World}{H:Hp}{h:Heap}{x C t:Addr}
theorem DU(e:h.get? x=ρ (ck C t)):b6 P w H h x (XN x C):={⟨t,e⟩,{_,e},λc d ⟨a,b⟩ k=>{a,k _ b}}
end
section
variable{X:Cx}{CB C f:Addr}{fd:P0}{ps:List Str}{sp:Sp}{E:XK}{k:Nat}{p pos gy:Pos}{e:Expr}{es:List Expr}{t:TA}{x nm:Str}
theorem Inv.newExc(I:Inv X g σ H s)(us:List Value)(C:Addr) :
 Inv X g σ (upd H (s.8+1) (XN (s.8+1) C)) {s with heap:=(s.heap.push (kA us)).push (ck C s.8)}:=by
 have c:=I.kept (h':=s.heap.push (kA us)) (t':=s.toks) λb u q=>O9 _ q;refine c.laid (a:=s.8+1) (t':=s.toks) (λb u q=>O9 _ q) (S3 (Q0 _ _)) (DU (t:=s.8) ?_);have:=Oq (s.heap.push (kA us)) (o:=ck C s.8) rfl;rwa[Q0]at this
theorem jQ(hT:vj X E)(hc:X.calm=true)(U:aT X.K C CB nm)(hi:findIn X.K (.ref C) "__init__"=ρ (ρ (.ref f)))(J:isFn X.K (.ref f)=true)
 (F:aH X.prog X.w X.K X.mg X.base dk k f fd ps sp) (hr:bA (k+1) X.A) (hb:Binds X.K fd ps []) (hg:Gl X x) (hm:X.mg x=ρ (.ref C)) (ha:PA X (e::es) t)
 (T:(x==("__debug__":Str))=false:=by decide) (he:starEach (e::es) X.5=(false,eval e X.5)::starEach es X.5:=by rfl) (hpl:(backTo gy (starEach es X.5)).any (·.1)=false:=by rfl) :
 PS X (.Raise (ρ (.Call (.Name x p) (e::es) [] gy)) τ pos) (DS X.K C sp E t):=by
 refine{?_};intro a s σ H D I h
 let{Y,N,bs,sn,sub,ab,col,dd,k0,k1,k2,k3,k5,lk}:=U.lk
 refine kI (C:=C) (CB:=CB) (nm:=nm) (q:=Y) (N:=N) (bs:=bs) (hdct:=true) (sn:=sn) (sub:=sub) (ab:=ab) (col:=col) (dd:=dd) (k0:=k0) (k1:=k1) (k2:=k2) (k3:=k3) (k5:=k5) (I.ok.hd hc) ?_;refine Qc (eA I hg hm ?_ T);refine Qz (h₀:=X.base) I.ok.mod.BU U.kp (bb (ha gy a s σ H _ I h) λc i ⟨Z,H1,j,r,m,q⟩=>{j.dC,?_}) he hpl;have z:=j.aI.fresh (PX i.8);have O:=q (i.8+1) z;have B:=Inv.newExc j c C;have Q:Vals (V.ref (i.8+1)::Z) (Oh (i.8+1)::c):=.cons rfl r
 have hl:(Oh (i.8+1)::c++[]).9=ps.9:=by
  have R:=Q.9;rw[F.len _ _ _ _ O]at R;rw[Pq];exact R.symm
 have n:=hb _ (Oh (i.8+1)::c) B.dC hl;rw[Pq]at n
 let{G,g,dr,tk,os}:=i
 refine Qw (tE (j.dC _ _ lk) (Rl j.dC hi) (λself=>bind_fn j.dC self (beq_iff_eq.mp J)) (by show c.9<=sizeLine;rw[<-r.9];exact m) ?_);refine Qy (F.run _ X.stack _ _ {Oh (G.7+1)::c,[]} (Oh (G.7+1)::c) _ _ E0 (hr.make C c []) (B.AA.make C c []) n Q O) λrr S b=>?_
 cases rr with
 |error e=>exact OI b
 |ok fl=>
  cases fl with
  |next=>exact OI b
  |brk=>exact OI b
  |cont=>exact OI b
  |ret u=>
   let{v,H',l,rv,ev,q3}:=B.after b
   subst ev;refine{rv,?_};have o:X.s₀.8<=G.7+1:=Od j.sz (PX _);rcases q3 with⟨hx,L⟩ |⟨d,hx,L⟩
   .let{{M,y},_}:=l.aI _ _ hx
    exact{_,τ,M,rfl,l.dC _ _ lk,y,hT a σ _ S _ C τ (l.del hx) {o,cD,_,_,y,by show 1<6;decide,.inl rfl} L}
   .let{{M,y},_}:=l.aI _ _ hx
    exact{_,ρ d,M,rfl,l.dC _ _ lk,y,hT a σ _ S _ C (ρ d) (l.del hx) {o,cD,_,_,y,by show 1<6;decide,.inl rfl} L}
end
end _L
namespace _L
open PySem.Spec PyProof.Rows PySem.W Builtin Builtin.ObjectAttr
section
variable{prog:Om}{w:World}{A:Around}{E:Value->Shared->Prop}{s:Shared}{K:O4}{x C CB:Addr}{name:Str}{v:Value}
theorem A7{Q:Unit->Shared->Prop}(X:K.In s.heap)(hx:s.heap.get? x=ρ (ck C t))(hc:clsIn K C=ρ cd)(hm:cd.mro=.ref C::m5 CB)(hh:cd.hasDict=true)(ha:findIn K (.ref C) name=ρ τ)
 (hs:findIn K (.ref C) "__setattr__"=ρ (ρ (.builtin "object.__setattr__")))
 (h:∀h' d tk,s.8<=d->(∀b o,b≠x->s.heap.get? b=ρ o->h'.get? b=ρ o)->h'.get? x=ρ {cls:=.ref C,dict:=ρ d,data:=.fields #[.ref t,.none,.none,.none,.bool false,.none]}->h'.Ns1 d (λy=>if y=name then ρ v else τ)->Q .unit {s with heap:=h',toks:=tk}) :
 wpAny (model prog w) A (setAttr (.ref x) name v) Q E s:=by
 have J:InstAt s.heap x (ck C t) C τ:=⟨hx,rfl,rfl,trivial⟩;refine Vp X J hs (xi (s:={s with toks:=s.toks+1}) X J hc hm ha ?_);unfold storeInOwnDict;refine O6 (Oo ?_);rw[if_neg (by simp)];unfold ownDictForStores instanceDict;refine O6 (O6 (Uh hx ?_));dsimp only;refine O6 (V9 (s:={s with toks:=s.toks+1}) (Tj X hc) ?_);rw[hh];have JS:(s.heap.push {cls:=.type "dict",data:=.dict #[]}).get? x=ρ (ck C t):=O9 _ hx;have GC:x≠s.8:=Oe (Oa hx);simp only[Bool.not_true,R3,if_false,Bool.not_false,SU];rw[if_neg (by simp[typeHasDict])];refine O6 (wpAny_alloc ?_);refine O6 (wpAny_update JS ?_);refine Oo ?_
 have Mh:((s.heap.push {cls:=.type "dict",data:=.dict #[]}).update x λo=>{cls:=o.cls,dict:=ρ s.8,data:=o.data,slots:=o.slots}).get? s.8
  =ρ {cls:=.type "dict",data:=.dict #[]}:=(UX _ _ _ _ GC.symm).trans (Heap.get?_push_at rfl rfl)
 have IG:((s.heap.push {cls:=.type "dict",data:=.dict #[]}).update x λo=>{cls:=o.cls,dict:=ρ s.8,data:=o.data,slots:=o.slots}).Ns s.heap.objs.size (λ_=>τ):=
  {_,#[],_,Mh,rfl,λe he=>absurd he (by simp),λ_=>rfl}
 show wpAny _ _ (storeInDict s.heap.objs.size (.str name s.toks) name v) _ _ _;unfold storeInDict newKeyGuard;refine O6 (Oo (O6 (wpAny_nsSet1 (Vq IG) λh' Gz Gk=>?_)))
 let{oD,NV,NW,Mi,Mj,Ml}:=Gz.count (VX name v Within.nil)
 refine O6 (wpAny_lookBehind Mi (by rw[Mj];exact pastItsLine_dict (Od Ml (by rw[Ov,S0,QI];omega))) ?_)
 wp_walk
 refine h h' s.heap.objs.size _ (Ob _) (λb ob Mm hb=>?_) ?_ Gz
 .exact(Gk.2 b (Oe (Oa hb))).trans ((UX _ _ _ _ Mm).trans (O9 _ hb))
 .exact(Gk.2 x GC).trans (QE _ JS rfl)
end
section
variable{prog:Om}{w:World}{A:Around}{s:Shared}{K:O4}{x C CB:Addr}{R:S1->Shared->Prop}{nm q:Str}{N:Addr}{bs:List Value}{sn:List Str}{sub:List Value}{ab:Bool}{col:Option Bool}{dd:Option Addr}{k0 k1 k2 k3 k5:Option Value}
theorem nS(X:K.In s.heap)(hx:s.heap.get? x=ρ (ck C t))(hk:K.lookup C=ρ (PB nm q C N bs (m5 CB) true sn sub ab col dd k0 k1 k2 k3 k5 "ValueError.__new__"))
 (h:∀h' t',(∀b o,b≠x->s.heap.get? b=ρ o->h'.get? b=ρ o)->h'.get? x=ρ (ck C t')->R (.ok (.ret .none)) {s with heap:=h'}) :
 codeAny (model prog w) A (.call (.builtin "ValueError.__init__") {[.ref x,u],[]}) R s:=by
 have F:=Qb;have f:=X _ _ hk;have J:InstAt s.heap x (ck C t) C τ:=⟨hx,rfl,rfl,trivial⟩;have sub:Looks (model prog w) s.heap (Ti (.ref x) (.type "ValueError")) true:=J.type.andThen (U9 X (by unfold mroIn clsIn;rw[hk];rfl));refine QG F.init.plain F.initEntry ?_;simp only[Tv,F.initKind,F.initSplit,F.initRow];refine O6 (sub.here ?_);simp only[Bool.not_true,R3,if_false];have a:=F.noStar
 let{c,g,d,k,os}:=s
 repeat (first |with_reducible refine Pg f ?_ |wp_step)
 have i:x≠c.7:=Oe (Oa hx);refine h _ c.objs.size (λb o j e=>?_) ?_
 .rw[P8 _ _ (Pz j)];exact O9 _ e
 .exact QE _ (O9 _ hx) rfl
end
section
variable{prog:Om}{w:World}{A:Around}{E:Value->Shared->Prop}{s:Shared}{K:O4}{x C CB:Addr}{nm q:Str}{N:Addr}{bs:List Value}{sn:List Str}{sub:List Value}{ab:Bool}{col:Option Bool}{dd:Option Addr}{k0 k1 k2 k3 k5:Option Value}
theorem uT{Q:Value->Shared->Prop}(X:K.In s.heap)(hx:s.heap.get? x=ρ (ck C t))(hk:K.lookup C=ρ (PB nm q C N bs (m5 CB) true sn sub ab col dd k0 k1 k2 k3 k5 "ValueError.__new__"))
 (h:∀h' t',(∀b o,b≠x->s.heap.get? b=ρ o->h'.get? b=ρ o)->h'.get? x=ρ (ck C t')->Q .none {s with heap:=h'}) :
 wpAny (model prog w) A (call (.builtin "ValueError.__init__") [.ref x,u]) Q E s:=Qw (nS X hx hk h)
end
end _L
namespace _L
open PySem.Spec PyProof.Rows
section
variable{X:Cx}{CB:Addr}{pos:Pos}{name:Str}{ta tv:TE}{o value:Expr}{pos':Pos}
theorem m9(ha:PE X o ta)(J:PE X value tv)(T:QK value (ρ (.Attribute o name pos')) pos.line X.5=pure false):PS X (.Assign [.Attribute o name pos'] value pos) (FZ X.K CB ta tv name):=by
 refine{?_};intro g s σ H D I h;refine RX (bb (J g s σ H _ I h) λu L ⟨y,M,O,Q,q⟩=>bb (ha g L σ M _ O q) λR E S=>?_) T
 let{z,l,i,V,x,C,Y,Z,hx,U,hn,q2}:=S
 subst Z;obtain rfl:R=Oh x:=V
 let{{t,ht},_}:=i.aI x _ hx
 let{qn,N,bs,sn,sub,ab,p,dd,k0,k1,k2,k3,k5,lk}:=U.lk
 refine A7 (CB:=CB) i.dC ht (cd:={name:=Y,bases:=bs,mro:=.ref C::m5 CB,ns:=N,qualname:=qn,hasDict:=true,slotNames:=sn,subclasses:=sub,abstract:=ab,collection:=p,hasDel:=false}) (by unfold clsIn;rw[lk]) rfl rfl hn U.sa λr d tk hd k ex ns=>{σ,_,?_,q2 d (i.aI.fresh hd)};have NX:d≠x:=λz=>by rw[z]at hd;exact absurd (O7 (i.aI.lt hx) hd) (OX _)
 have c:=i.aI.fresh hd
 have un:Un (lM X.stack) [] l (upd (upd l d (.xd [(name,y)])) x (XD x C d)) E.heap r:=by
  have nx:∀{b:Addr} {o:HO},l b=ρ o->(∀ψ,o≠.ext ψ)->b≠x:=λe n z=>by rw[z,hx]at e;exact n _ (Oc e).symm
  have A:∀{b:Addr},l b=τ->b≠x:=λe z=>by rw[z,hx]at e;cases e
  refine{λb o q n _ _=>k b o (A n) q,λb o q n _ _=>{o.slots,k b o (A n) q},λb o q n _=>?_,λb o q _=>?_,λb vs q=>?_,λb o v q=>?_,λb ps q=>?_}
  .rw[a8 (A n),a8 (λz=>by rw[z]at q;exact absurd (O7 (Oa q) hd) (OX _))];exact n
  .by_cases z:b=x
   .rw[z];exact{_,ex}
   .exact{o,k b o z q}
  .rw[a8 (nx q λψ z=>by cases z),a8 (ae q c)];exact q
  .rw[a8 (nx q λψ z=>by cases z),a8 (ae q c)];exact q
  .exact{#[],by rw[a8 (nx q λψ z=>by cases z),a8 (ae q c),q];simp}
 have aI:fw X.prog X.w (upd (upd l d (.xd [(name,y)])) x (XD x C d)) r:=λa o e=>by
  by_cases z:a=x
  .subst z;rw[a5]at e;cases e;exact HM ex
  .rw[a8 z]at e
   by_cases G:a=d
   .subst G;rw[a5]at e;cases e;refine{_,ns,λf=>?_}
    by_cases m:f=name
    .have j:(f==name)=true:=beq_iff_eq.mpr m;simp only[SE,j,if_pos m];exact Q
    .have j:(f==name)=false:=beq_eq_false_iff_ne.mpr m;simp only[SE,j,if_neg m]
     trivial
   .rw[a8 G]at e;refine(i.aI a o e).iJ (λb u j q=>k b u ?_ q) (λb q=>?_) λb vs q=>?_
    .rintro rfl;rcases j with rfl |j
     .exact z rfl
     .rw[hx]at j;cases j
    .have:b≠x:=λB=>by rw[B,hx]at q;cases q
     rw[a8 this,a8 (ae q c)];exact q
    .have:b≠x:=λB=>by rw[B,hx]at q;cases q
     rw[a8 this,a8 (ae q c)];exact q
 exact i.oZ (s':={E with heap:=r,toks:=tk}) rfl un aI i.bare λb z=>absurd z (by simp)
end
section
variable{X:Cx}{CB f:Addr}{p pos apos:Pos}{e e2:Expr}{t:TA}{xj:Str}
theorem jR(r:Gl X xj)(J:X.mg xj=ρ (.ref CB))(B:C6 X.K CB)(ha:PA X [e,e2] t)(g:(xj==("__debug__":Str))=false:=by decide)
 (he:starEach [e,e2] X.5=(false,eval e X.5)::starEach [e2] X.5:=by rfl) (hpl:(backTo pos (starEach [e2] X.5)).any (·.1)=false:=by rfl)
 (j:eval (.Call (.Attribute (.Name xj p) "__init__" apos) [e,e2] [] pos) X.5=(do
   let l <-eval (.Name xj p) X.5
   standAt apos.atName
   let (f,first) <-holding [l] (Ry l "__init__" pl)
   Tq pos f first (backTo pos (starEach [e,e2] X.5)) (backToKw pos (QJ [] X.5))):=by rfl) :
 PE X (.Call (.Attribute (.Name xj p) "__init__" apos) [e,e2] [] pos) (DR X.K CB t):=by
 refine{?_};intro a s σ H Q I h;refine Rj (pl:=pl) (eA I r J ?_ g) j;refine PySem.W.method_cls I.dC B.sp (PySem.W.cls_value I.dC B.rd B.fc rfl ?_);refine S7 (bb (ha pos a _ σ H _ (I.tok _) h) λE d i=>?_) he hpl
 let{G,n,c,v,x,C,L,m,w,hx,U,q}:=i
 subst w
 let{M,O,rfl,y,R}:=vals2 v
 cases y
 let{{t,j},_}:=c.aI x _ hx
 let{S,N,bs,T,sub,V,A,Y,Z,k1,k2,k3,k5,lk}:=U.lk
 refine uT c.dC j lk λh' t' k ex=>{.non,n,?_,rfl,q};have:=c.write (x:=x) (e:=x) (o:=XN x C) (h':=h') (t':=d.toks) (by rw[hx];exact PN) (.inl rfl) (λb u D z=>k b u D z) {_,ex} (DU ex);rw[CH hx]at this;exact this
end
section
variable{X:Cx}{CB C:Addr}{E:XK}{p pos gy:Pos}{e:Expr}{es:List Expr}{t:TA}{x nm:Str}
theorem pO(J:vj X E)(hc:X.calm=true)(U:aT X.K C CB nm)(hi:findIn X.K (.ref C) "__init__"=ρ (ρ (.builtin "ValueError.__init__")))(T:Gl X x)(hm:X.mg x=ρ (.ref C))(ha:PA X (e::es) t)
 (l:(x==("__debug__":Str))=false:=by decide) (he:starEach (e::es) X.5=(false,eval e X.5)::starEach es X.5:=by rfl) (hpl:(backTo gy (starEach es X.5)).any (·.1)=false:=by rfl) :
 PS X (.Raise (ρ (.Call (.Name x p) (e::es) [] gy)) τ pos) (Aw C E t):=by
 refine{?_};intro a s σ H D I h
 let{y,N,bs,sn,sub,ab,col,dd,k0,k1,k2,k3,k5,lk}:=U.lk
 refine kI (C:=C) (CB:=CB) (nm:=nm) (q:=y) (N:=N) (bs:=bs) (hdct:=true) (sn:=sn) (sub:=sub) (ab:=ab) (col:=col) (dd:=dd) (k0:=k0) (k1:=k1) (k2:=k2) (k3:=k3) (k5:=k5) (I.ok.hd hc) ?_;refine Qc (eA I T hm ?_ l);refine Qz (h₀:=X.base) I.ok.mod.BU U.kp (bb (ha gy a s σ H _ I h) λA c ⟨Q,B,d,r,f,q⟩=>{d.dC,?_}) he hpl
 obtain⟨u,rfl⟩:∃u,A=[u]:=by
  have:=r.9;rw[f]at this;exact List.length_eq_one_iff.mp this.symm
 have m:=Inv.newExc d [u] C;have i:(upd B (c.8+1) (XN (c.8+1) C)) (c.8+1)=ρ (XN (c.8+1) C):=a5;have j:=d.aI.fresh (PX c.8)
 let{k,g,R,G,os}:=c
 refine Qw (tE (d.dC _ _ lk) (Rl d.dC hi) (λself=>Looks.of_pure (Qb.init.bind self)) (by show 1<=sizeLine;decide) ?_)
 let{{S,L},_}:=m.aI _ _ i
 refine nS m.dC L lk λh' t' M ex=>{rfl,?_};have w:=m.write (x:=k.7+1) (e:=k.7+1) (o:=XN (k.7+1) C) (h':=h') (t':=G) (by rw[i];exact PN) (.inl rfl) (λb u O z=>M b u O z) {_,ex} (DU ex);rw[uU]at w;have n:=w.del (x:=k.7+1) a5;rw[vf j]at n;have v:X.s₀.8<=k.7+1:=Od d.sz (PX _);exact{_,τ,t',rfl,n.dC _ _ lk,ex,J a σ _ _ _ C τ n {v,j,_,_,ex,by show 1<6;decide,.inl rfl} q}
end
end _L
namespace HT
open PyProof.Rows
noncomputable def rm(n d:Nat):Option Int->Nat
 |none=>d
 |some v=>if v<0 then(v+(n:Int)).toNat else min v.toNat n
end HT
namespace _L
open PySem.Spec PyProof.Rows
theorem rn(lo hi:Option Int)(n:Nat):(Vz lo hi τ n).1=((HT.rm n 0 lo:Nat):Int)/\(Vz lo hi τ n).2.1=((HT.rm n n hi:Nat):Int)/\(Vz lo hi τ n).2.2=1:=by
 have key:∀(i:Int) (d:Nat),max 0 (min (if i<0 then i+(n:Int) else i) (n:Int))=((HT.rm n d (ρ i):Nat):Int):=by
  intro i d
  by_cases h:i<0<;>simp only[HT.rm,h,if_true,if_false]<;>lia
 exact{by cases lo with |none=>rfl |some i=>exact key i 0,by cases hi with |none=>rfl |some i=>exact key i n,rfl}
theorem oC(g:List Value)(lo hi:Option Int):slicePick g.toArray lo hi τ=((g.drop (HT.rm g.length 0 lo)).take (HT.rm g.length g.length hi-HT.rm g.length 0 lo)).6:=by
 let{a,b,c}:=rn lo hi g.toArray.size
 unfold slicePick;rw[a,b,c];simp only[sliceRange_one,pick_run,OO]<;>rfl
section
variable{lo hi:Option Expr}
noncomputable def tF(xs:List V)(lo hi:Option Int):List V:=(xs.drop (HT.rm xs.length 0 lo)).take (HT.rm xs.length xs.length hi-HT.rm xs.length 0 lo)
theorem tG(xs:List V)(lo hi:Option Int):(tF xs lo hi).9<=xs.9:=by
 delta tF;rw[OT,VF]
 lia
end
section
variable{a:Expr}
inductive IH(K:O4)(x:V)(lo hi:Option Int)(H:Hp)(Q:VK):Prop
 |mk (a xs) (_:x=.ref a) (_:aK K H a xs) (_:∀p,H p=τ->Q (.ref p) (upd H p (.lst (tF xs lo hi))))
end
section
variable{X:Cx}
theorem ro:HH X (IH X.K):=by
 intro e s σ H x v m n lo hi sl Q I g i pl j h
 let{a,c,rfl,hx,q}:=h
 cases g
 let{k,r,f,l}:=I.list hx
 have d:=r.9;refine{"list",_,slot_list_getitem.lookup,f.isList.typeIs,?_};refine wpAny_getItem_list_slice f.isList i pl j .none (by simp) ?_ (by grind);rw[oC,<-d];refine{.ref s.8,_,I.laid (t':=s.toks) (o:=.lst (tF c lo hi)) (λb ob q=>O9 _ q) (Ob _) ?_,rfl,q _ (I.aI.fresh (Ob _))};exact⟨Od (tG c lo hi) l,_,0,(r.drop (HT.rm c.length 0 lo)).take (HT.rm c.length c.length hi-HT.rm c.length 0 lo),Oq _ rfl⟩
end
end _L
namespace K60
section
variable{P:Om}{w:World}{K:O4}{mg:Str->Option Value}{base:Heap}
theorem xM(L:Lk K mg):aH P w K mg base (oY P w) 6 L.sN L.sR ["band","length","number"] (zi L.al L.bu):=by
 have T:=L.T;refine L.jK.F.uF (N:=["band","length","number","table","row","place","rest","taken","counts","sign","rows"]) (λhH A outer s H vs Q E nd hr h=>?_)
 let{x,n,kz,g,a,ss,ls,rfl,B,w1,O,R,hn,u}:=h
 have hu:=fO hr
 refine{_,(a0 (ah (i:=3) (af (dA L) L.cM (a4 (0) (aB (1)))))
  (a0 (aG (PW.pt (cQ (aY (aN (af (t8 L) L.nK (aB (2))))) (cQ (bE rK (2) a9) (cE (bE C9 (2) (d7 hu (aF aM (3) (1) (λ_ _=>rfl)) ao (λ_ _=>rfl))))))) (a6 (pO bq rfl L.en L.t7 rfl L.nN (aB ao))) aq)
  (a0 (ah (i:=4) ao)
  (a0 (ah (i:=5) ao)
  (a0 (ah (i:=6) (2))
  (a0 (gu Qo rfl (cu rfl T.range (aB (1))) (aj (i:=7)) (a0 (ah (i:=8) (aF aM (3) (ay mx (ay mx (1) (7)) a9) (λ_ _=>rfl)))
  (a6 (gu Qo rfl (gx (cI (0) rfl)) (aj (i:=9)) (a0 (ah (i:=10) (af (gb L) L.eh (a4 (0) (a4 (5) (a4 (9) (aB (8)))))))
  (a0 (aG (bE rK (6) (10)) (a0 (qf (i:=4) nd rfl (Rv rfl) (9) AB)
  (a0 (ah (i:=5) (E4 (0) L.ax.cl L.ei (eF L) (a4 (5) (aB (9)))))
  (a6 yq))) aq)
  (a6 (qf (i:=6) nd rfl (Rv rfl) (10) D9))))))))
  (a6 (ai (4))))))))),?_}
 ac_rfl
 have S:("":Str)∈ss:=B.pm.mem_iff.mpr (bt a);have pm:=B.pm;rcases u with⟨U,r,rfl,X,k⟩ |⟨NY,k⟩
 rotate_left
 .refine{2,x,(n:Int),g,a,ss,ls,rfl,B,O,R,1.0,1.0,λl v I Y f1 hl C ht=>?_};rw[Pb]at C
  obtain⟨t,et,D⟩:∃t,iY (v.map V.ref) (n:Int)=ρ (.ref t)/\I t=ρ (.dK (ux g a ss n)):=by
   have e:n<v.9:=1.0;exact{v[n],aw (by rw[OC,P1 e];rfl),ht n _ (P1 e)}
  have Z:=eJ.k (k:=(Ou "":Key)) D;rw[gq _ S]at Z;have fin:Q=Q:=rfl;refine{_,rfl,kz,rfl,true,rfl,aC ?_}
  by_cases h0:kz<0
  .refine{1,_,1,rfl,true,congrArg V.bl (decide_eq_true h0),bH ?_};exact{rfl,k I Y}
  .have h2:cz g a ss n ""<=kz:=1.0;refine{1,_,1,rfl,false,congrArg V.bl (decide_eq_false h0),aC ?_};refine{3,l,_,_,1,rfl,aK.of hl,et,t,1,Z,_,1,rfl,true,congrArg V.bl (decide_eq_true h2),bH ?_};exact{rfl,k I Y}
 have hk:(U:Int)<cz g a ss n "":=by
  have h1:=(O8.mp X).1;have h2:=m2 (g:=g) pm w1 n "" (dJ w1);rw[gI S]at h2;omega
 refine{2,x,(n:Int),g,a,ss,ls,rfl,B,O,R,1.0,1.0,λl v I Y f1 hl C ht=>?_};rw[Pb]at C;have B1:=B.same Y
 have row:∀i:Nat,i<=n->∃t,iY (v.map V.ref) (i:Int)=ρ (.ref t)/\I t=ρ (.dK (ux g a ss i)):=λi hi=>by
  have e:i<v.9:=1.0;refine{v[i],aw (by rw[OC,P1 e];rfl),ht i _ (P1 e)}
 let{tn,Mo,D}:=row n (Ob _)
 have Z:=eJ.k (k:=(Ou "":Key)) D;rw[gq _ S]at Z;refine{1,(U:Int),rfl,true,rfl,aC ?_};refine{1,_,1,rfl,false,congrArg V.bl (decide_eq_false 1.0),aC ?_};refine{3,l,_,_,1,rfl,aK.of hl,Mo,tn,1,Z,_,1,rfl,false,congrArg V.bl (decide_eq_false 1.0),aC ?_};refine{1,?_};refine{1,(n:Int),rfl,1.0,1.0,?_};rw[Pb]
 refine cp (lo:=0) (n:=n) (λi σ H2=>H2=I/\∃(pre:Str) (q:Nat) (v7 v8 G v10:Option V),σ=[ρ (.ref x),ρ (.int (n:Int)),ρ (.int (U:Int)),ρ (.ref l),ρ (.str pre),ρ (.str (lend ss pre)),ρ (.int (q:Int)),v7,v8,G,v10]/\bears a pre=false/\pre.9=i/\∃J,r=pre++J/\(c6 g a pre (n-i))[q]?=ρ J)
  {rfl,"",U,τ,τ,τ,τ,by rw[gI S];rfl,dJ w1,rfl,r,(jc r).symm,X} ?_ ?_
 .rintro i σ H2 hi ⟨rfl,pre,q,v7,v8,G,v10,rfl,hb,hpl,J,er,f⟩;obtain⟨m,em⟩:∃m,n-i=m+1:={n-i-1,1.0}
  let{tm,JT,II}:=row m 1.0
  have IJ:(n:Int)-(0+(i:Int))-1=(m:Int):=1.0;rw[<-IJ]at JT;have hp:lend ss pre∈ss:=gH S _;refine{3,_,1,rfl,_,1,rfl,l,_,_,1,rfl,aK.of hl,JT,?_}
  let{{dx,b,d,qq,mv,h1,h2,h3,h4,h5,h6},_,_,_}:=id B1
  rw[em,mL]at f;refine{1,x,L.al,dx,_,1,h1,L.ax.cl,L.ax.i6,dS g b d qq,g,rfl,pZ (d9 g) (λj σ H3=>H3=H2/\∃(q:Nat) (G v10:Option V),σ=[ρ (.ref x),ρ (.int (n:Int)),ρ (.int (U:Int)),ρ (.ref l),ρ (.str pre),ρ (.str (lend ss pre)),ρ (.int (q:Int)),ρ (.int (0+(i:Int))),ρ (.ref tm),G,v10]/\(E1 g a pre m ((ch g).drop j))[q]?=ρ J) {rfl,q,_,1,by rw[SA];exact f} (λ_ _ _ _ _=>trivial) ?_ ?_}
  .rintro j y σ H3 hy ⟨rfl,q,G,v10,rfl,M⟩
   let{c,Mp,rfl,hj,GD,_}:=wO hy
   have GA:(ch g).drop j=c::(ch g).drop (j+1):=by
    let{Mq,e'}:=O8.mp Mp
    rw[QH Mq,e']
   rw[GA]at M;refine{4,x,tm,lend ss pre,c,m,g,a,ss,ls,rfl,B1,hp,GD,II,?_};rw[Bo pm w1 hb];refine{2,_,1,rfl,1,tO (λe=>?_) (λEK=>?_)}
   .have o:q<(c6 g a (pre++{#[c]}) m).9:=by have:=of_decide_eq_true e;omega
    let{r2,e2,Mr}:=Dj M o
    have JU:bears a (pre++{#[c]})=false:=by
     cases z:bears a (pre++⟨#[c]⟩) with
     |true=>rw[qE z]at o;exact absurd o (by simp)
     |false=>rfl
    have el:({#[c]}:Str).length=1:=rfl;refine{2,_,1,rfl,aa 1.0,?_};refine{1,x,dx,1,h1,B7 _ _ _ _ ∅ ∅ ∅ ∅,2,x,lend ss pre,c,g,a,ss,ls,rfl,B1,hp,GD,?_};rw[qH pm w1 hb,JU,if_neg ⋯];refine{rfl,pre++({#[c]}:Str),q,_,_,_,1,JU,by rw[len_app,hpl];rfl,r2,by rw[er,e2,cx],?_};rw[show n-(i+1)=m by omega];exact Mr
   .have p:(c6 g a (pre++{#[c]}) m).9<=q:=by have:=of_decide_eq_false (Vv.mpr EK);omega
    have:=AU M p;refine{2,_,1,rfl,rfl,q-(c6 g a (pre++{#[c]}) m).9,ρ (.str {#[c]}),ρ (.int ((c6 g a (pre++{#[c]}) m).9:Int)),?_,this};rw[Int.ofNat_sub p];rfl
  .rintro σ H3 ⟨rfl,q,G,v10,rfl,M⟩;exfalso;have:(b2 g).9=(ch g).9:=by unfold b2;rw[O5]
   rw[this,List.drop_length]at M;cases M
 .rintro σ H2 ⟨rfl,pre,q,v7,v8,G,v10,rfl,hb,hpl,J,er,f⟩;rw[Sj,mK hb]at f
  have e0:J="":=by
   have:=Ox f;exact Oz.mp this
  rw[e0,qy]at er;refine{1,?_};rw[<-er];exact k _ Y
theorem DV(f:Str)(os:List Str):tF ((f::os).map V.str) (ρ 1) τ=os.map V.str:=by
 have hl:((f::os).map V.str).9=os.9+1:=by rw[O5];rfl
 delta tF;rw[hl];have a:HT.rm (os.9+1) 0 (ρ 1)=1:=by unfold HT.rm;simp
 have b:HT.rm (os.9+1) (os.9+1) τ=os.9+1:=rfl;rw[a,b,Nat.add_sub_cancel];show (os.map V.str).take os.9=_;rw[<-O5 (f:=V.str),Pu]
theorem G0(ws:List Str):tF (ws.map V.str) τ (ρ 1)=(ws.take 1).map V.str:=by
 cases ws with
 |nil=>rfl
 |cons w r=>
  delta tF;have hl:((w::r).map V.str).9=r.9+1:=by rw[O5];rfl
  rw[hl];have a:HT.rm (r.9+1) 0 τ=0:=rfl;have b:HT.rm (r.9+1) (r.9+1) (ρ 1)=1:=by unfold HT.rm;simp
  rw[a,b];rfl
end
end K60
namespace _S
inductive BR(C:Addr)(name:Str)(ok:V->Prop)(vs:List V)(H:Hp)(Q:VK)(gB:XK):Prop
 |mk (x v) (_:vs=[.ref x,v]) (_:ok v) (_:H x=ρ (XN x C)) (_:∀d,H d=τ->Q .non (upd (upd H d (.xd [(name,v)])) x (XD x C d)))
end _S
namespace K60
section
variable{P:Om}{w:World}{K:O4}{mg:Str->Option Value}{base:Heap}
theorem ic(L:Lk K mg):aH P w K mg base dk 1 L.bF L.cj ["self","many"] (BR L.aO "many" vD):=by
 refine L.pL.fG (N:=["self","many"]) (λb A outer s H e Q E nd f h=>?_)
 let{x,v,rfl,{i,rfl,hi},hx,k}:=h
 refine{_,(a0 (cb (jR rfl L.dj L.XB (a4 (0) (aB (lR (qm (1) (iK qg)))))))
  (a6 (m9 (CB:=L.aA) (0) (1) rfl))),?_}
 ac_rfl
 let{c,a}:=lV i hi
 refine{2,.inl {i,rfl,c,aa ?_,aa ?_,aa ?_,x,L.aO,_,1,hx,L.dM,?_}}
 .rw[len_app];exact Od (OJ (show _<=1000 by decide+kernel) a) ⋯
 .rw[len_app,len_app];exact Od (OJ (OJ (show _<=1000 by decide+kernel) a) (show _<=1000 by decide+kernel)) ⋯
 .rw[len_app,len_app];exact Od (OJ (OJ (show _<=1000 by decide+kernel) a) (show _<=1000 by decide+kernel)) ⋯
 exact{2,x,L.aO,1,hx,L.dM,L.hB,λd hd=>k d hd}
theorem iW(L:Lk K mg):aH P w K mg base dk 1 L.bS L.cN ["self","number"] (BR L.b8 "number" vD):=by
 refine L.sV.fG (N:=["self","number"]) (λb A outer s H e Q E nd f h=>?_)
 let{x,v,rfl,{i,rfl,hi},hx,k}:=h
 refine{_,(a0 (cb (jR rfl L.dj L.XB (a4 (0) (aB (lR (iK (qm (1) (iK qg))))))))
  (a6 (m9 (CB:=L.aA) (0) (1) rfl))),?_}
 ac_rfl
 let{c,a}:=lV i hi
 refine{1,aa ∅,1,.inl {i,rfl,c,aa ?_,aa ?_,aa ?_,x,L.b8,_,1,hx,L.fj,?_}}
 .rw[len_app];exact Od (OJ (show _<=1000 by decide+kernel) a) ⋯
 .rw[len_app,len_app];exact Od (OJ (OJ (show _<=1000 by decide+kernel) a) (show _<=1000 by decide+kernel)) ⋯
 .rw[len_app,len_app];exact Od (OJ (OJ (show _<=1000 by decide+kernel) a) (show _<=1000 by decide+kernel)) ⋯
 exact{2,x,L.b8,1,hx,L.fj,L.g7,λd hd=>k d hd}
theorem lK(L:Lk K mg):aH P w K mg base (oY P w) 3 L.gM L.gS ["barred","signs"] (zj K L.aO L.b8):=by
 have T:=L.T;refine L.cL.F.uF (N:=["barred","signs","number","thing"]) (λO A outer s H X Q E nd G h=>?_)
 let{a,g,xs,rfl,c,hl,hw,k}:=h
 refine{_,(a0 (aG (bE j7 (Aa T.len (0)) a9) (a6 (jQ bq rfl L.dM L.uN L.uO (ic L) (G.mono ⋯) L.pM rfl L.pK (aB (Aa T.len (0))))) aq)
  (a6 (gu Qo rfl (AD (by rfl) T.enum (aB (0))) (cG rfl (az (aj (i:=2)) (az (aj (i:=3)) bN))) (a6 (aG (aY (aN (af (uQ L) L.pG (a4 (3) (aB (1)))))) (a6 (jQ bq rfl L.fj L.xB L.xC (iW L) (G.mono ⋯) L.sW rfl L.sU (aB (2)))) aq))))),?_}
 ac_rfl
 rcases k with⟨R,k⟩ |k
 .refine{1,a,1,.inl c,_,1,rfl,true,congrArg V.bl (decide_eq_true 1.0),bH ?_};refine{1,a,1,.inl c,by show 1<=sizeLine;decide,λe u=>{e,.int xs.9,rfl,{1,1.0},a5,λd hd=>{rfl,.inr {d,a5,?_}}}}
  let{S,j,v}:=fC (o2:=.xd [("many",.int xs.9)]) (o3:=XD e L.aO d) u hd
  rw[v];exact k d _ (a7.upd j) j a5
 have R:xs.9<=6:=by rcases k with⟨h,_⟩ |⟨h,_⟩<;>exact h
 refine{1,a,1,.inl c,_,1,rfl,false,congrArg V.bl (decide_eq_false 1.0),aC ?_};rcases k with⟨_,l,k⟩ |⟨_,I,U,f,y,m,k⟩
 .refine{1,a,1,c,rL (K:=K) (a:=a) (xs:=xs) (λi σ b=>a7 H b/\∃n q,σ=[ρ (.ref a),ρ (.str g),n,q]) {a7.refl _,τ,τ,rfl} (λi σ b _ p=>p.1.seq c) ?_ (λσ b p=>k b p.1)};rintro i x σ b T hx ⟨z,n,q,rfl⟩ B
  let{t,rfl,C}:=l x (Ox hx)
  refine{T,1,eI.of a5,rfl,_,1,_,1,rfl,?_};refine{2,.str t,g,rfl,.inl {t,rfl,C,λJ r=>{true,rfl,aC ?_}}};exact{(z.trans (a7.upd B)).trans r,_,1}
 .refine{1,a,1,c,rL (K:=K) (a:=a) (xs:=xs) (λi σ b=>i<=I/\a7 H b/\∃n q,σ=[ρ (.ref a),ρ (.str g),n,q]) {OZ _,a7.refl _,τ,τ,rfl} (λi σ b _ p=>p.2.1.seq c) ?_ (λσ b p=>?_)}
  .rintro i x σ b T hx ⟨hi,z,n,q,rfl⟩ B;refine{T,1,eI.of a5,rfl,_,1,_,1,rfl,?_};have D:=z.trans (a7.upd (o:=.tup [.int (i:Nat),x]) B)
   by_cases e:i=I
   .subst e;rw[f]at hx;cases hx;refine{2,U,g,rfl,.inr {y.same D,λJ r=>{false,rfl,bH ?_}}};have M:=D.trans r;refine{1,by show 1<=sizeLine;decide,λe u=>{e,.int (i:Nat),rfl,{1,by have:=(O8.mp f).1;omega},a5,λd hd=>{rfl,.inr {d,a5,?_}}}}
    let{S,j,v}:=fC (o2:=.xd [("number",.int (i:Nat))]) (o3:=XD e L.b8 d) u hd
    rw[v];exact k d _ (M.trans (a7.upd j)) (none_of M j) a5
   .let{t,rfl,C}:=m i x 1.0 hx
    refine{2,.str t,g,rfl,.inl {t,rfl,C,λJ r=>{true,rfl,aC ?_}}};exact{1.0,D.trans r,_,1}
  .have:=(O8.mp f).1;have:=p.1;omega
theorem kB(L:Lk K mg):aH P w K mg base (oY P w) 4 L.dq L.fV ["self","signs","barred"] (Bm K L.al L.bz L.aO L.b8):=by
 have T:=L.T;refine L.g6.F.Ib cX (λvs H Q E h=>?_) (λhH A outer s H vs Q E hr h=>?_)
 .rcases h with⟨x,t,g,a,ws,rfl,_⟩ |⟨x,a,v,rfl,_⟩ |⟨x,a,g,xs,rfl,_⟩<;>rfl
 .skip
  have hu:=fO hr
  refine{_,(a0 (aG (aY (aN (af (ri L) L.lx (aB (1))))) (a6 (pO bq rfl L.fi L.uM rfl L.kt (aB ao))) aq)
   (a0 (cb (j9 (lK L) (hr.mono ⋯) rfl L.cL.g L.cL.F.kp L.cL.b .nil (j8 bq) (a4 (2) (aB (1)))))
   (a0 (gA (0) (1) rfl)
   (a0 (gA (0) (aL qj (by rfl) T.list vC (aB (2))) rfl)
   (a0 (gA (0) gv rfl)
   (a0 (yx (i:=3) cX.nd rfl (Rv rfl) (af (ku L) L.fZ (aB (2))))
   (a0 (gu Qo rfl (bP (3)) (lQ (i:=4) cX.nd rfl (Rv rfl)) (a6 (hU hu (cI (0) rfl) (4) (af (ot L) L.jG (a4 (4) (a4 (1) (a4 (2) (aB (3)))))) rfl)))
   (a6 (gA (0) (af (ou L) L.jI (aB (cI (0) rfl))) rfl))))))))),?_}
  ac_rfl
  rcases h with⟨x,t,g,a,ws,rfl,hx,hS,sg,hl,hw,k⟩ |⟨x,a,v,rfl,N,k⟩ |⟨x,a,g,xs,rfl,sg,hS,Ms,GC,k⟩
  rotate_left
  .exact{1,v,rfl,.inr {N,λH1 R=>{false,rfl,bH {rfl,k H1 R}}}}
  .refine{1,.str g,rfl,.inl {g,rfl,sg,λH1 R=>{true,rfl,aC ?_}}};refine{2,a,g,xs,rfl,R.seq hS,Ms,λv hv=>(GC v hv).imp id λh=>h.same R,?_};rcases k with⟨h6,k⟩ |⟨h6,i,x0,Mt,hn,hb,k⟩
   .exact .inl {h6,eT.same k R}
   .exact .inr (.inr {h6,i,x0,Mt,hn.same R,hb,eT.same k R})
  have Ac:∀w∈ws,w.9<=5:=λw h=>(hw w h).hi;refine{1,.str g,rfl,.inl {g,rfl,sg,λH1 R=>{true,rfl,aC ?_}}}
  have G1:∀v∈ws.map V.str,∃z,v=.str z/\bJ g z:=λv hv=>by
   let{z,hz,rfl}:=Ol.mp hv
   exact{z,rfl,hw z hz}
  refine{2,a,g,ws.map V.str,rfl,R.seq hS,by rw[O5];lia,λv hv=>.inl (G1 v hv),.inr (.inl {by rw[O5];exact hl,G1,λH2 s2=>?_})};have u:a7 H H2:=R.trans s2;have Mu:=u _ _ hx;refine{2,x,L.al,t,1,Mu,L.ax.cl,L.ax.i6,⋯,?_};rw[Dr];have G2:∀(o:HO) b ob,H b=ρ ob->b≠x->(upd H2 x o) b=ρ ob:=λo b ob e hb=>by rw[a8 hb];exact u _ _ e
  have J:∀{H':Hp} (h:∀b o,H b=ρ o->b≠x->H' b=ρ o),aK K H' a (ws.map V.str):=λ{H'} h=>by
   have JV:∀o,H a=ρ o->(∀fs,o≠.ins L.al t fs)->a≠x:=λo e ne z=>by
    subst z;rw[hx]at e;exact ne [] (Oc e).symm
   rcases hS with(e |⟨o,e⟩) |e
   .exact .inl (.inl (h _ _ e (JV _ e (λ_ z=>by cases z))))
   .exact .inl (.inr {o,h _ _ e (JV _ e (λ_ z=>by cases z))})
   .exact .inr e
  refine{1,a,1,.inl (J (G2 _)),λb hb=>?_};have G:x≠b:=ae a5 hb;have G3:H2 b=τ:=by rw[a8 G.symm]at hb;exact hb
  refine{1,x,L.al,t,Gn g,rfl,by rw[a8 G,a5],L.ax.cl,L.ax.z4,(show 1<1000 by decide),?_};rw[put2];intro d hd;have B:x≠d:=ae a5 hd
  have IK:b≠d:=by
   intro z;subst z;rw[a8 G.symm,a5]at hd;cases hd
  have C:H2 d=τ:=by rw[a8 B.symm,a8 IK.symm,a8 B.symm]at hd;exact hd
  refine{1,x,L.al,t,Go g b,rfl,by rw[a8 B,a5],L.ax.cl,L.ax.fD,(show 2<1000 by decide),?_};rw[put3];generalize M:upd (upd (upd (upd (upd H2 x (.ins L.al t (Gn g))) b (.lst (ws.map V.str))) x (.ins L.al t (Go g b))) d (.dK [])) x (.ins L.al t (Dq g b d))=H3;have x3:H3 x=ρ (.ins L.al t (Dq g b d)):=by rw[<-M,a5]
  have d3:H3 d=ρ (.dK []):=by rw[<-M,a8 B.symm,a5]
  have b3:H3 b=ρ (.lst (ws.map V.str)):=by rw[<-M,a8 G.symm,a8 IK,a8 G.symm,a5]
  have k3:∀c o,H c=ρ o->c≠x->H3 c=ρ o:=λc o e hc=>by
   have e2:=u _ _ e;rw[<-M,a8 hc,a8 (ae e2 C),a8 hc,a8 (ae e2 G3),a8 hc];exact e2
  clear M;refine{1,a,ws,rfl,J k3,hl,Ac,λl ss H4 s4 X h4 hp Mv=>?_};have IG:ss.Nodup:=hp.nodup_iff.mpr (kH ws);have DQ:ss.9<=25:=by have:=hV (ws:=ws) (e:="") (us:=ws) Ac;rw[hp.length_eq];lia
  have G4:∀p∈ss,p.9<=5:=λp Cq=>wN Ac p (hp.mem_iff.mp Cq);have IL:("":Str)∈ss:=hp.mem_iff.mpr (bt ws);have JW:l≠d:=λz=>by rw[z,d3]at X;cases X
  have NZ:l≠x:=λz=>by rw[z,x3]at X;cases X
  refine{1,l,rfl,{_,aK.of h4},eR (K:=K) (a:=l) (xs:=ss.map V.str) (λi σ S=>∃v4 D,σ=[ρ (.ref x),ρ (.str g),ρ (.ref a),ρ (.ref l),v4]/\S d=ρ (.dK (bM D))/\D.map (·.1)=ss.take i/\(∀m∈D,S m.2=ρ (.dK (rowOf g ws ss m.1)))/\(∀m∈D,H4 m.2=τ)/\(∀c o,H4 c=ρ o->c≠d->S c=ρ o))
   {τ,[],rfl,s4 _ _ d3,rfl,λm n=>(nomatch n),λm n=>(nomatch n),λc o e _=>e} (λi σ S _ {_,_,_,_,_,_,_,O}=>aK.of (O _ _ h4 JW)) ?_ ?_}
  .rintro i y σ S hy ⟨v4,D,rfl,I,r,f,Y,O⟩
   obtain⟨p,Z,rfl⟩:∃p,ss[i]?=ρ p/\y=.str p:=by
    rw[OC]at hy
    cases e:ss[i]? with
    |none=>rw[e]at hy;cases hy
    |some z=>rw[e]at hy;exact{z,rfl,(Oc hy).symm}
   have hi:i<ss.9:=(O8.mp Z).1;have Cq:p∈ss:=Ox Z
   have k5:∀c o,H c=ρ o->c≠x->S c=ρ o:=λc o e hc=>O _ _ (s4 _ _ (k3 c o e hc)) (λz=>by
    subst z;have:=u _ _ e
    rw[C]at this;cases this)
   have x5:S x=ρ (.ins L.al t (Dq g b d)):=O _ _ (s4 _ _ x3) B;refine{4,p,g,a,l,ws,ss,rfl,J k5,aK.of (O _ _ h4 JW),IL,by have:=G4 p Cq;lia,by have:=sg.hi;lia,sg.nd,(),λe H6 U GF h6=>?_};have d6:=U _ _ I
   have IM:p∉D.map (·.1):=by
    rw[r];intro n
    let{j,hj,ej}:=Sd.mp n
    rw[Tb]at ej;rw[OT]at hj;have e1:ss[i]=p:=(O8.mp Z).2;have:=(QN IG).mp (ej.trans e1.symm)
    lia
   have G5:D.9<=25:=by have:=congrArg Rp r;rw[O5,OT]at this;lia
   refine{1,x,L.al,t,_,1,U _ _ x5,L.ax.cl,L.ax.fD,gC g b d,1,d,1,nV.k (k:=Ou p) d6 (by unfold bM;rw[O5];exact cR ()),?_};have JX:e≠d:=λz=>by rw[z,I]at GF;cases GF
   have e4:H4 e=τ:=by
    cases q:H4 e with
    |none=>rfl
    |some o=>
     have:=O _ _ q JX;rw[this]at GF;cases GF
   refine{_,D++[(p,e)],rfl,?_,?_,?_,?_,?_}
   .rw[a5,gm _ (mD IM)];unfold bM;rw[OV];rfl
   .rw[OV,r];have:ss.take (i+1)=ss.take i++[p]:=by rw[Qk,Z];rfl
    rw[this];rfl
   .intro m n;rcases P2.mp n with z |z
    .have nm:m.2≠d:=λq=>by
      have:=f m z;rw[q,I]at this;have:=Y m z;rw[q]at this;rw[s4 _ _ d3]at this;cases this
     rw[a8 nm];exact U _ _ (f m z)
    .have:m=(p,e):=by simpa using z
     subst this;rw[a8 JX];exact h6
   .intro m n;rcases P2.mp n with z |z
    .exact Y m z
    .have:m=(p,e):=by simpa using z
     subst this;exact e4
   .intro c o hc JY;rw[a8 JY];exact U _ _ (O c o hc JY)
  .rintro σ S ⟨v4,D,rfl,I,r,f,Y,O⟩;rw[O5,Pu]at r;have x5:S x=ρ (.ins L.al t (Dq g b d)):=O _ _ (s4 _ _ x3) B;have G5:D.9<=1000:=by have:=congrArg Rp r;rw[O5]at this;lia
   refine{1,x,L.al,t,_,1,x5,L.ax.cl,L.ax.fD,gC g b d,d,D,rowOf g ws ss,rfl,I,G5,f,λkx=>uv g ws ss kx,λkx=>by rw[x1];have:=sg.hi;lia,λq ls H6 U hq h6 lv=>?_};refine{1,x,L.al,t,1,U _ _ x5,L.ax.cl,L.ax.wQ,(show 3<1000 by decide),?_};rw[AZ];have JZ:q≠x:=λz=>by rw[z,x5]at hq;cases hq
   have Ij:∀m∈D,m.2≠x:=λm n z=>by
    have:=f m n;rw[z,x5]at this;cases this
   have iJ:∀c o,H c=ρ o->c≠x->S c=ρ o:=λc o e hc=>O _ _ (s4 _ _ (k3 c o e hc)) (λz=>by
    subst z;have:=u _ _ e
    rw[C]at this;cases this)
   have fq:H q=τ:=by
    cases z:H q with
    |none=>rfl
    |some o=>rw[iJ _ _ z JZ]at hq;cases hq
   have fm:∀m∈D,H m.2=τ:=λm n=>by
    cases z:H m.2 with
    |none=>rfl
    |some o=>
     have:=Y m n;rw[s4 _ _ (k3 _ _ z (Ij m n))]at this;cases this
   refine k ss ls _ {{t,b,d,q,D,wL a5,lW (none_of u G3) ?_,lW (none_of u C) ?_,r,λm n=>lW (fm m n) ?_,lW fq ?_},hp,Mv,by rw[r]at lv;exact lv} λc o e hc=>?_
   .rw[a8 G.symm];exact U _ _ (O _ _ (s4 _ _ b3) IK)
   .rw[a8 B.symm];exact U _ _ I
   .rw[a8 (Ij m n)];exact U _ _ (f m n)
   .rw[a8 JZ];exact h6
   .rw[a8 hc];exact U _ _ (iJ c o e hc)
theorem jS(L:Lk K mg):aH P w K mg base dk 1 L.bX L.d1 ["self","number"] (BR L.b9 "number" vD):=by
 refine L.vX.fG (N:=["self","number"]) (λb A outer s H e Q E nd f h=>?_)
 let{x,v,rfl,{i,rfl,hi},hx,k}:=h
 refine{_,(a0 (cb (jR rfl L.dj L.XB (a4 (0) (aB (lR (iK (qm (1) (iK qg))))))))
  (a6 (m9 (CB:=L.aA) (0) (1) rfl))),?_}
 ac_rfl
 let{c,a}:=lV i hi
 refine{1,aa ∅,1,.inl {i,rfl,c,aa ?_,aa ?_,aa ?_,x,L.b9,_,1,hx,L.fK,?_}}
 .rw[len_app];exact Od (OJ (show _<=1000 by decide+kernel) a) ⋯
 .rw[len_app,len_app];exact Od (OJ (OJ (show _<=1000 by decide+kernel) a) (show _<=1000 by decide+kernel)) ⋯
 .rw[len_app,len_app];exact Od (OJ (OJ (show _<=1000 by decide+kernel) a) (show _<=1000 by decide+kernel)) ⋯
 exact{2,x,L.b9,1,hx,L.fK,L.hF,λd hd=>k d hd}
theorem iX(L:Lk K mg):aH P w K mg base dk 1 L.bT L.cO ["self","length"] (BR L.aU "length" vD):=by
 refine L.sY.fG (N:=["self","length"]) (λb A outer s H e Q E nd f h=>?_)
 let{x,v,rfl,{i,rfl,hi},hx,k}:=h
 refine{_,(a0 (cb (jR rfl L.dj L.XB (a4 (0) (aB (lR (iK (qm (1) (iK qg))))))))
  (a6 (m9 (CB:=L.aA) (0) (1) rfl))),?_}
 ac_rfl
 let{c,a}:=lV i hi
 refine{1,aa ∅,1,.inl {i,rfl,c,aa ?_,aa ?_,aa ?_,x,L.aU,_,1,hx,L.fk,?_}}
 .rw[len_app];exact Od (OJ (show _<=1000 by decide+kernel) a) ⋯
 .rw[len_app,len_app];exact Od (OJ (OJ (show _<=1000 by decide+kernel) a) (show _<=1000 by decide+kernel)) ⋯
 .rw[len_app,len_app];exact Od (OJ (OJ (show _<=1000 by decide+kernel) a) (show _<=1000 by decide+kernel)) ⋯
 exact{2,x,L.aU,1,hx,L.fk,L.g8,λd hd=>k d hd}
theorem jT(L:Lk K mg):aH P w K mg base (oY P w) 3 L.eV L.f6 ["self","row"] (sH L.al L.b9):=by
 have T:=L.T;refine L.cZ.F.uF (N:=["self","row","number","sign"]) (λG A outer s H Y Q E nd I h=>?_)
 let{x,r,g,Z,ss,ls,rfl,B,J,k}:=h
 let{{M,b,d,q,mv,O,h2,h3,h4,h5,h6},_,_,_}:=id B
 refine{_,(a6 (gu Qo rfl (nR (by rfl) T.enum (aB (1))) (cG rfl (az (aj (i:=2)) (az (aj (i:=3)) bN))) (a6 (aG (hO pY (3) (cI (0) rfl) rfl) (a6 (jQ bq rfl L.fK L.zV L.zW (jS L) (I.mono ⋯) L.vY rfl L.rh (aB (2)))) aq)))),?_}
 ac_rfl
 refine{1,r,rfl,kg (λi σ l=>a7 H l/\(∀j c,j<i->(ch r)[j]?=ρ c->c∈ch g)/\∃p t,σ=[ρ (.ref x),ρ (.str r),p,t]) {a7.refl _,λj c h=>absurd h (R4 _),τ,τ,rfl} ?_ ?_}
 .rintro i c σ l T hc ⟨u,lo,p,t,rfl⟩ R;have m:=u.trans (a7.upd (o:=.tup [.int (i:Nat),.str {#[c]}]) R);have S:i<r.9:=by rw[<-au];exact(O8.mp hc).1
  refine{T,1,eI.of a5,rfl,_,1,_,1,rfl,?_};refine{2,x,L.al,M,_,1,m _ _ O,L.ax.cl,L.ax.i6,dS g b d q,_,1,rfl,1,?_};have e:=vy g c;unfold AR at e
  by_cases a:c∈ch g
  .rw[decide_eq_true a]at e;rw[e];refine aC {m,λj U hj f=>?_,_,1}
   by_cases v:j<i
   .exact lo j U v f
   .obtain rfl:j=i:=1.0;rw[hc]at f;cases f;exact a
  .rw[decide_eq_false a]at e;rw[e];refine bH ?_;have o:Out g r i:={⟨c,hc,a⟩,lo}
   have y:nX L.b9 "number" (.int (i:Nat)) H E:=by
    rcases k with⟨z,_⟩ |⟨j,n,y⟩
    .exact(o.no z).elim
    .rw[o.one n];exact y
   refine{1,by show 1<=sizeLine;decide,λe V=>{e,1,{1,1.0},a5,λC hd=>{rfl,.inr {C,a5,?_}}}}
   let{r1,D,X}:=fC (o2:=.xd [("number",.int (i:Nat))]) (o3:=XD e L.b9 C) V hd
   rw[X];exact y C _ (m.trans (a7.upd D)) (none_of m D) a5
 .rintro σ l ⟨u,lo,p,t,rfl⟩;rcases k with⟨_,k⟩ |⟨j,n,_⟩
  .exact k l u
  .let{c,hc,hn}:=n.at_
   exact absurd (lo j c n.lt hc) hn
theorem kC(L:Lk K mg):aH P w K mg base (oY P w) 4 L.fR L.fW ["self","row"] (zg L.al L.b9 L.aU):=by
 have T:=L.T;refine L.dw.F.uF (N:=["self","row","place","number","sign"]) (λhH A outer s H vs Q E nd hr h=>?_)
 let{x,r,g,ws,ss,ls,rfl,B,FY,hw,k}:=h
 let{{dx,b,d,q,mv,h1,h2,h3,h4,h5,h6},pm,_,_}:=id B
 have he:("":Str)∈ss:=pm.mem_iff.mpr (bt ws);have hu:=fO hr
 refine{_,(a0 (cb (lU (0) L.ax.cl L.cZ.m (jT L) (hr.mono ⋯) L.cZ.b .nil (j8 bq) (aB (1))))
  (a0 (ah (i:=2) ao)
  (a0 (gu Qo rfl (nR (by rfl) T.enum (aB (1))) (cG rfl (az (aj (i:=3)) (az (aj (i:=4)) bN))) (a0 (ah (i:=2) (d7 hu (d7 hu (cI (0) rfl) (2) (λ_ _=>rfl)) (4) (λ_ _=>rfl)))
  (a6 (aG (bE mr (2) cU) (a6 (jQ bq rfl L.fk L.xD L.xE (iX L) (hr.mono ⋯) L.sZ rfl L.sX (aB (ay eL (3) a9)))) aq))))
  (a6 (ai (2)))))),?_}
 ac_rfl
 refine{1,x,dx,1,h1,B7 _ _ _ _ ∅ ∅ ∅ ∅,1,x,r,g,ws,ss,ls,rfl,B,FY,?_};have rest:wK g r->((bears ws r=false/\∀H',a7 H H'->Q (.str (lend ss r)) H')\/(∃n,Bad ws r n/\nX L.aU "length" (.int ((n:Nat)+1)) H E))->wK g r->True:=λ_ _ _=>trivial;rcases k with⟨IP,k⟩ |⟨n,IP,k⟩ |⟨i,o,hE⟩
 rotate_left 2
 .exact .inr ⟨i,o,hE⟩
 all_goals refine .inl {IP,λH1 s1=>?_}
 all_goals refine{1,r,rfl,kg (λi σ H2=>a7 H H2/\bears ws (aS r i)=false/\∃v3 v4,σ=[ρ (.ref x),ρ (.str r),ρ (.str (lend ss (aS r i))),v3,v4]) {s1,by rw[take_zero];exact dJ hw,τ,τ,by rw[take_zero,gI he];rfl} ?_ ?_}
 rotate_left 1
 .rintro σ H2 ⟨s2,hg,v3,v4,rfl⟩;rw[take_all]at hg ⊢;exact{_,rfl,k.2 H2 s2}
 rotate_left 1
 .rintro σ H2 ⟨s2,hg,v3,v4,rfl⟩;rw[take_all,k.1.br]at hg;cases hg
 all_goals
  rintro i c σ H2 T hc ⟨s2,K0,v3,v4,rfl⟩ hT;have s3:=s2.trans (a7.upd (o:=.tup [.int (i:Nat),.str {#[c]}]) hT);have K1:i<r.9:=by rw[<-au];exact(O8.mp hc).1
  have GD:=IP c (Ox hc)
  let{a,ha,hv}:=eQ (mv:=mv) (k:=lend ss (aS r i)) (by rw[h4];exact gH he _)
  have e1:=eJ.k (k:=(Ou (lend ss (aS r i)):Key)) (s3 _ _ h3);rw[hv]at e1;have e2:=eJ.k (k:=(Ou ({#[c]}:Str):Key)) (s3 _ _ (h5 _ ha));rw[vG GD,qH pm hw K0,<-take_snoc hc]at e2;refine{T,1,eI.of a5,rfl,_,1,_,1,rfl,?_};refine{1,x,L.al,dx,_,1,s3 _ _ h1,L.ax.cl,L.ax.fD,fB g b d q,1,d,1,e1,1,a,1,e2,?_}
  cases hb:bears ws (aS r (i+1)) with
  |false=>
   rw[if_neg (by simp)];exact{1,rfl,false,CL _,aC {s3,rfl,_,1}}
  |true=>
   rw[if_pos rfl];refine{_,rfl,rfl,true,CJ _,bH ?_};have bd:Bad ws r i:=⟨K1,K0,hb⟩
   first
   |(exfalso
     have:=bd.br;rw[k.1]at this
     cases this)
   |(have hE:nX L.aU "length" (.int ((i:Nat)+1)) H E:=by
      rw[bd.one k.1];exact k.2
     refine⟨_,rfl,_,_,rfl,rfl,by show 1<=sizeLine;decide,λe he=>⟨e,_,rfl,⟨_,rfl,1.0⟩,a5,λdd hd=>⟨rfl,.inr ⟨dd,a5,?_⟩⟩⟩⟩
     let{r1,r2,r3}:=fC (o2:=.xd [("length",.int ((i:Nat)+1))]) (o3:=XD e L.aU dd) he hd
     rw[r3]
     exact hE dd _ (s3.trans (a7.upd r2)) (none_of s3 r2) a5)
theorem rp(L:Lk K mg):aH P w K mg base (oY P w) 6 L.kN L.kX ["band","row"] (x9 L.al L.b9 L.aU):=by
 have T:=L.T;refine L.eD.F.uF (N:=["band","row","table","number","place","taken","sign","counts","ahead"]) (λhH A outer s H vs Q E nd hr h=>?_)
 let{x,r,g,a,ss,ls,rfl,B,w1,Mw,FT,DQ,FY,u}:=h
 refine{_,(a0 (cb (lU (0) L.ax.cl L.dw.m (kC L) (hr.mono ⋯) L.dw.b .nil (j8 bq) (aB (1))))
  (a0 (ah (i:=2) (af (dA L) L.cM (a4 (0) (aB (vv T.len (1))))))
  (a0 (ah (i:=3) a9)
  (a0 (ah (i:=4) ao)
  (a0 (gu Qo rfl (nR (by rfl) T.enum (aB (1))) (cG rfl (az (aj (i:=5)) (az (aj (i:=6)) bN))) (a0 (ah (i:=7) (aF aM (2) (ay mx (ay mx (vv T.len (1)) (5)) a9) (λ_ _=>rfl)))
  (a0 (ah (i:=8) (cH k8 (cI (0) rfl) dD (dF (mC Qv UP PySem.F.type_str_index zu (cI (0) rfl) (aB (6))))))
  (a0 (qf (i:=3) nd rfl (Rv rfl) (aD (rX rfl) (by rfl) T.sum Fp (aB (cJ rfl (bg ["band","place","counts"] [0,4,7]) (gx (8)) (λ_ _ _ _ _ _=>cf) (λ_ _ _ _ _ _=>(af (gb L) L.eh (a4 (1) (a4 (2) (a4 (0) (aB (3)))))))))) yz)
  (a6 (ah (i:=4) (E4 (0) L.ax.cl L.ei (eF L) (a4 (4) (aB (6))))))))))
  (a6 (ai (3)))))))),?_}
 ac_rfl
 have he:("":Str)∈ss:=B.pm.mem_iff.mpr (bt a);have pm:=B.pm
 let{{dx,b,d,qq,mv,h1,h2,h3,h4,h5,h6},_,_,_}:=id B
 refine{1,x,dx,1,h1,B7 _ _ _ _ ∅ ∅ ∅ ∅,1,x,r,g,a,ss,ls,rfl,B,FY,w1,?_};rcases u with⟨kk,y,k⟩ |⟨n,p,bd,hE⟩ |⟨i,o,hE⟩
 rotate_left
 .exact .inr (.inl ⟨n,p,bd,hE⟩)
 .exact .inr (.inr ⟨i,o,hE⟩)
 let{f,_,p}:=qA (Ox y)
 rw[jc]at f;refine .inl {p,f,λH1 s1=>?_};refine{2,r,rfl,aa 1.0,x,(r.9:Int),g,a,ss,ls,rfl,B.same s1,FT,DQ,1.0,1.0,λl ts H2 s2 f2 hl Mx ht=>?_};rw[Pb]at Mx
 have row:∀i:Nat,i<=r.9->∃t,iY (ts.map V.ref) (i:Int)=ρ (.ref t)/\H2 t=ρ (.dK (ux g a ss i)):=λi hi=>by
  have C:i<ts.9:=1.0;refine{ts[i],aw (by rw[OC,P1 C];rfl),ht i _ (P1 C)}
 have D:=s1.trans s2;refine{1,r,rfl,kg (λi σ G=>a7 H2 G/\∃(N:Nat) (v5 v6 v7 v8:Option V),σ=[ρ (.ref x),ρ (.str r),ρ (.ref l),ρ (.int (N:Int)),ρ (.str (lend ss (aS r i))),v5,v6,v7,v8]/\∀k',(c6 g a (aS r i) (r.9-i))[k']?=ρ (c4 r i)->(c6 g a "" r.9)[N+k']?=ρ r) ⟨a7.refl _,0,τ,τ,τ,τ,by rw[take_zero,gI he];rfl,λk' e=>?_⟩ ?_ ?_}
 .rw[take_zero,Nat.sub_zero]at e;have e0:c4 r 0=r:=bh (by rw[hZ,SA]);rw[e0]at e;rw[Nat.zero_add];exact e
 .rintro i c σ G T hc ⟨s3,N,v5,v6,v7,v8,rfl,hN⟩ hT;have I:=s3.trans (a7.upd (o:=.tup [.int (i:Nat),.str {#[c]}]) hT);have K1:i<r.9:=by have:=(O8.mp hc).1;rw[au]at this;exact this
  have J:=p c (Ox hc);have M:bears a (aS r i)=false:=eU (mI r i) f;have O:bears a (aS r (i+1))=false:=eU (mI r (i+1)) f;obtain⟨m,em⟩:∃m,r.9-i=m+1:={r.9-i-1,1.0}
  let{tm,R,II}:=row m 1.0
  have IJ:(r.9:Int)-(i:Int)-1=(m:Int):=1.0;rw[<-IJ]at R;have hp:lend ss (aS r i)∈ss:=gH he _
  let{j,U,Iy,My}:=sv J
  have JE:j<g.9:=by have:=(O8.mp U).1;rw[au]at this;exact this
  refine{T,1,eI.of a5,rfl,_,1,_,1,rfl,?_};generalize upd G T _=H4 at I;have B4:=(B.same D).same I
  let{{X,b4,d4,q4,O0,x4,_},_}:=id B4
  refine{2,r,rfl,aa 1.0,1,_,1,rfl,_,1,rfl,l,_,_,1,rfl,aK.of (I _ _ hl),R,?_};refine{1,x,L.al,X,_,1,x4,L.ax.cl,L.ax.i6,dS g b4 d4 q4,1,x,L.al,X,_,1,x4,L.ax.cl,L.ax.i6,dS g b4 d4 q4,rfl,1,g,c,j,rfl,rfl,U,Iy,1,g,rfl,aa 1.0,?_};have v:ch (OQ g τ (ρ (j:Int)))=(ch g).take j:=mE g j;have Mz:(OQ g τ (ρ (j:Int))).length<=10:=by have:=Ri g τ (ρ (j:Int));omega
  generalize OQ g τ (ρ (j:Int))=Y at v Mz;have Z:=I _ _ II;refine{2,Y,rfl,λlc IA=>?_};refine comp_map (FC g a ss m (lend ss (aS r i))) (d9 Y) IA (by rw[iP];exact aa 1.0) (λ_ _=>trivial) (λz H5 Q' hz s5 qq=>?_) (λH5 s5 h5=>?_)
  .let{c',MA,rfl}:=Ol.mp hz
   have IQ:c'∈ch g:=by
    have h':c'∈ch Y:=MA;rw[v]at h';exact Rm h'
   exact{4,x,tm,lend ss (aS r i),c',m,g,a,ss,ls,rfl,B4.same s5,hp,IQ,s5 _ _ Z,qq H5 (a7.refl _)}
  have e5:(b2 Y).map (FC g a ss m (lend ss (aS r i)))=(((ch g).take j).map (E3 g a ss m (lend ss (aS r i)))).map V.int:=by
   rw[<-v];unfold b2;rw[OS,OS];rfl
  rw[e5]at h5;have q:=vI (g:=g) pm w1 M m ((ch g).take j);refine{lc,1,aK.of h5,_,1,rfl,?_};have B5:=B4.same s5
  let{{MB,b5,d5,q5,O1,x5,_},_}:=id B5
  refine{1,x,MB,1,x5,B7 _ _ _ _ ∅ ∅ ∅ ∅,2,x,lend ss (aS r i),c,g,a,ss,ls,rfl,B5,hp,J,?_};rw[qH pm w1 M,<-take_snoc hc,O,if_neg ⋯];generalize hS:(((ch g).take j).map λd=>(c6 g a (aS r i++{#[d]}) m).9).sum=S at q;refine{I.trans s5,N+S,ρ (.int (i:Int)),ρ (.str {#[c]}),ρ (.ref tm),ρ (.str Y),?_,λk' e=>?_}
  .show List.set _ _ _=_;rw[q,Sa];rfl
  .rw[show r.9-(i+1)=m by omega,take_snoc hc]at e;have h9:=Dk My e;rw[hS,drop_cons hc,<-em]at h9;have:=hN _ h9;rw[Nat.add_assoc];exact this
 .rintro σ G ⟨s3,N,v5,v6,v7,v8,rfl,hN⟩
  have K2:=hN 0 (by
   rw[Sj,take_all,mK f];have:c4 r r.9="":=hX r;rw[this]
   rfl)
  have:N=kk:=zm (xc Mw "" r.9) (by rw[Nat.add_zero]at K2;exact K2) y;subst this;exact{1,k G (D.trans s3)}
theorem jU(L:Lk K mg):aH P w K mg base (oY P w) 8 L.eZ L.fb ["band","first","others"] (vK K L.al L.bu L.b9 L.aU):=by
 have T:=L.T;refine L.bW.F.uF (N:=["band","first","others"]) (λp A outer s H v Q E nd d h=>?_)
 let{x,a,f,g,os,i,ss,ls,rfl,B,e,w1,nd,t,c,hc}:=h
 refine{_,(a0 (aG (bE dg (1) ao) (a6 (ai (aL bY (by rfl) T.str kd (aB (af (A4 L) L.vQ (a4 (0) (aB (aL ia (by rfl) T.int yY (aB (aF aM (2) a9 (λ_ _=>rfl))))))))))) aq)
  (a0 (aG (bE dg (1) ao) (a6 (ai (j9 (xM L) (d.mono ⋯) rfl L.jK.g L.jK.F.kp L.jK.b .nil (j8 bq) (a4 (0) (a4 (aL ia (by rfl) T.int yY (aB (aF aM (2) a9 (λ_ _=>rfl)))) (aB (aL ia (by rfl) T.int yY (aB (aF aM (2) a9 (λ_ _=>rfl)))))))))) aq)
  (a6 (ai (aL bY (by rfl) T.str kd (aB (j9 (rp L) (d.mono ⋯) rfl L.eD.g L.eD.F.kp L.eD.b .nil (j8 bq) (a4 (0) (aB (aF aM (2) a9 (λ_ _=>rfl))))))))))),?_}
 ac_rfl
 rcases hc with⟨n,rfl,rfl,hn,k⟩ |⟨n,q,r,rfl,rfl,hn,l,d,k⟩ |⟨n,q,rfl,rfl,hn,l,d,k⟩ |⟨r,rfl,rfl,d,hk⟩
 .refine{1,rfl,true,∅,bH {2,a,_,_,1,rfl,e,aw (j:=0) rfl,n,rfl,1.0,x,(n:Int),g,i,ss,ls,rfl,B,1.0,c,1.0,1.0,λm o=>{1,?_,?_}}}
  .rw[Pb];exact vN t hn
  .rw[Pb];exact k m o
 .exact{1,rfl,false,∅,aC {1,rfl,true,∅,bH {2,a,_,_,1,rfl,e,aw (j:=0) rfl,n,rfl,1.0,1,a,_,_,1,rfl,e,aw (j:=1) rfl,q,rfl,l,x,n,(q:Int),g,i,ss,ls,rfl,B,w1,1.0,c,1.0,.inl ⟨q,r,rfl,d,k⟩}}}
 .exact{1,rfl,false,∅,aC {1,rfl,true,∅,bH {2,a,_,_,1,rfl,e,aw (j:=0) rfl,n,rfl,1.0,1,a,_,_,1,rfl,e,aw (j:=1) rfl,q,rfl,l,x,n,(q:Int),g,i,ss,ls,rfl,B,w1,1.0,c,1.0,.inr {.inr d,k}}}}
 .refine{1,rfl,false,∅,aC {1,rfl,false,∅,aC {2,a,_,_,1,rfl,e,aw (j:=0) rfl,x,r,g,i,ss,ls,rfl,B,w1,nd,1.0,c,d,?_}}};rcases hk with⟨q,u,y,k⟩ |h |h
  .refine .inl {q,u,λm o=>{1,?_,k m o}};exact qI 1.0 (Vg (show (q:Int)<10^10 by omega) ∅)
  .exact .inr (.inl h)
  .exact .inr (.inr h)
theorem jV(L:Lk K mg):aH P w K mg base (oY P w) 6 L.f3 L.fg ["self","signs","barred"] (Bp K L.bp L.al L.bz L.aO L.b8):=by
 refine L.d0.F.Ib jg (λY H Q E h=>?_) (λZ A outer s H Y Q E hr h=>?_)
 .rcases h with⟨x,D,a,v,g,t,rfl,_⟩ |⟨x,a,g,t,rfl,_⟩<;>rfl
 .have h:=h
  refine{_,(a0 (gA (0) (AJ L.BK (kB L) (hr.mono ⋯) rfl L.DN L.g6.b .nil (j8 bq) (a4 (1) (aB (2)))) rfl)
   (a0 (gA (0) cU rfl)
   (a6 (ai ao)))),?_}
  ac_rfl
  rcases h with⟨x,D,a,v,g,t,rfl,hx,G,sg,I,J,k⟩ |⟨x,a,g,t,rfl,G,hc⟩
  .refine{2,λl f d m C=>?_};have r:a7 H (upd (upd H f (.own l)) l (.ins L.al f [])):=i5 d m;refine .inl {l,f,g,a,t,rfl,a5,r.seq G,sg,I,J,λss ls U B1 M=>{rfl,?_}};have X:a7 H U:=λb o e=>M b o (r _ _ e) (ae e d);have O2:x≠l:=ae hx d;have B2:b7 L.al (dN H U) l g t ss ls:=B1.same (Bj r d);refine{1,x,L.bp,D,1,X _ _ hx,L.bR.cl,L.bR.mN,(show 2<1000 by decide),?_};rw[Fv];refine{1,x,L.bp,D,1,a5,L.bR.cl,L.bR.mM,(show 2<1000 by decide),?_};rw[Fw];refine k l ss ls _ (λc o e n=>by rw[a8 n,a8 n];exact X _ _ e) d a5 (B2.same λc o e=>?_)
   have p:H c=τ:=by
    cases q:H c with
    |none=>rfl
    |some o'=>unfold dN at e;rw[q]at e;cases e
   have e1:=hJ _ _ _ _ e;refine me p ?_;rw[a8 (λz=>by rw[z,hx]at p;cases p),a8 (λz=>by rw[z,hx]at p;cases p)];exact e1
  .refine{2,λl f d m C=>?_};have r:a7 H (upd (upd H f (.own l)) l (.ins L.al f [])):=i5 d m;rcases hc with⟨hn,hl,k⟩ |⟨sg,hl,hw,hk⟩
   .exact .inr (.inl {l,a,1,{.flat rfl,λz e=>by cases e;exact⟨hn,hl⟩},λH' s'=>k H' (r.trans s')})
   .refine .inr (.inr {l,a,g,t.map V.str,rfl,sg,r.seq G,by rw[O5];exact hl,λy B=>?_,?_})
    .let{w,N,rfl}:=Ol.mp B
     rcases hw w N with h |⟨h1,h2⟩
     .exact .inl ⟨w,rfl,h⟩
     .exact .inr {.flat rfl,λz e=>by cases e;exact⟨h1,h2⟩}
    .rcases hk with⟨O,k⟩ |⟨O,i,w,hi,R,S,T,k⟩
     .refine .inl {by rw[O5];exact O,?_};rw[O5];exact eT.same k r
     .exact .inr {by rw[O5];exact O,i,.str w,by rw[OC,hi];rfl,{.flat rfl,λz e=>by cases e;exact⟨R,S⟩},λj y hj B=>by
       rw[OC]at B
       cases q:t[j]? with
       |none=>rw[q]at B;cases B
       |some u=>rw[q]at B;exact{u,(Oc B).symm,T j u hj q},eT.same k r}
theorem tH(L:Lk K mg):aH P w K mg base (oY P w) 12 L.ni L.nI ["self","row"] (Bq K L.bp L.al L.bu L.b9 L.aU L.bz L.aO L.b8):=by
 refine L.iV.F.uF (N:=["self","row","words","first","others"]) (λhH A outer s H vs Q E nd hr h=>?_)
 let{x,S,v,r,ps,rfl,hx,er,hf,FY,Z,hs}:=h
 refine{_,(a0 (ah (i:=2) (mC Qv RF PySem.F.type_str_split A5 (1) (aB ao)))
  (a0 (ah (i:=3) (aF aM (2) a9 (λ_ _=>rfl)))
  (a0 (ah (i:=4) (cH ro (2) (dF a9) dD))
  (a0 (aG (aY (aN (af (tD L) L.nL (a4 (3) (aB (4)))))) cq aq)
  (a0 (aG (bE dg (3) ao) (a6 (ai (lU (0) L.bR.cl L.d0.m (jV L) (hr.mono ⋯) L.d0.b .nil (j8 bq) (a4 (aF aM (4) a9 (λ_ _=>rfl)) (aB (cH ro (4) (dF a9) dD)))))) aq)
  (a0 (aG (bE mr (cI (0) rfl) cU) cq aq)
  (a0 (aG (bE dg (3) ao) cq aq)
  (a0 (aG (hO hP (3) (gw (a4 ao (a4 ao (aB ao)))) rfl) (a6 (ai (j9 (jU L) (hr.mono ⋯) rfl L.bW.g L.bW.F.kp L.bW.b .nil (j8 bq) (a4 (cI (0) rfl) (a4 (3) (aB (4))))))) aq)
  (a0 (aG (bE mr (cI (0) rfl) cU) cq aq)
  cq))))))))),?_}
 ac_rfl
 obtain⟨f,os,rfl⟩:∃f os,ps=f::os:=by
  rcases hs with⟨g,y,rfl,_⟩ |⟨g,y,rfl,_⟩ |⟨X,g,y,ss,ls,f,os,_,_,rfl,_⟩<;>exact{_,1}
 refine⟨_,rfl,rfl,r,32,rfl,rfl,1.0,λl hl=>?_⟩;rw[er,uD 32 (by simp) hf];have s1:a7 H (upd H l (.lst ((f::os).map V.str))):=a7.upd hl;have u:(upd H l _) l=ρ (.lst ((f::os).map V.str)):=a5;show gi 2 (V.ref l) _ _ _;generalize upd H l _=Y at s1 u;refine{1,l,_,_,1,rfl,aK.of u,aw (j:=0) rfl,?_};refine{2,l,1,aK.of u,λlo Hq=>?_};rw[DV];have s2:a7 Y (upd Y lo (.lst (os.map V.str))):=a7.upd Hq;have a:(upd Y lo _) lo=ρ (.lst (os.map V.str)):=a5;show gi 4 (V.ref lo) _ _ _;generalize upd Y lo _=H2 at s2 a;have I:=s1.trans s2;have J:os.9<=1000:=by rw[Ov]at Z;omega
 rcases hs with⟨g,y,e,sg,Il,MC,k⟩ |⟨g,y,e,hc⟩ |⟨X,g,y,ss,ls,f',O3,rfl,B,e,w1,nd,g4,DQ,hc⟩
 .let{rfl,rfl}:=PY e
  refine{2,_,_,lo,rfl,aK.of a,J,.band g y,λH3 C=>{true,rfl,aC {1,rfl,true,∅,bH ?_}}};have d:=I.trans C;refine{1,x,S,1,d _ _ hx,mJ (by show ("take_band":Str)∉[("band":Str),"writer"];decide+kernel),1,lo,_,_,1,rfl,aK.of (C _ _ a),aw (j:=0) rfl,2,lo,1,aK.of (C _ _ a),λl2 M=>?_};rw[DV];have p:=d.trans (a7.upd (o:=.lst (y.map V.str)) M);refine .ok x S l2 v g y rfl (p _ _ hx) (aK.of a5) sg Il MC λX ss ls z kp hn MD B=>?_;exact k X ss ls z (λc o e n=>kp _ _ (p _ _ e) n) MD (B.same (pz p))
 .let{rfl,rfl}:=PY e
  refine{2,_,_,lo,rfl,aK.of a,J,.band g y,λH3 C=>{true,rfl,aC {1,rfl,true,∅,bH ?_}}};have d:=I.trans C;refine{1,x,S,1,d _ _ hx,mJ (by show ("take_band":Str)∉[("band":Str),"writer"];decide+kernel),1,lo,_,_,1,rfl,aK.of (C _ _ a),aw (j:=0) rfl,2,lo,1,aK.of (C _ _ a),λl2 M=>?_};rw[DV];have p:=d.trans (a7.upd (o:=.lst (y.map V.str)) M);refine .no x l2 g y rfl (aK.of a5) ?_;rcases hc with⟨u,a,k⟩ |⟨u,a,D,T⟩
  .exact .inl {u,a,λz G=>k z (p.trans G)}
  .refine .inr {u,a,D,?_};rcases T with⟨O,k⟩ |⟨O,i,w,h6,h7,h8,h9,k⟩
   .exact .inl {O,eT.same k p}
   .exact .inr {O,i,w,h6,h7,h8,h9,eT.same k p}
 .let{rfl,rfl}:=PY e
  obtain⟨R,e1,e2,e3⟩:ki f os/\decide (V.str f=V.str "band")=false/\decide (V.str f=V.str "rate")=false/\xO (.str f) [.str "count",.str "row",.str "number"]=true:=by
   rcases hc with⟨n,rfl,rfl,hn,_⟩ |⟨n,q,_,rfl,rfl,hn,hq,_⟩ |⟨n,q,rfl,rfl,hn,hq,_⟩ |⟨r,rfl,rfl,_⟩
   .exact{.count n hn,∅,∅,∅}
   .exact{.row n q hn hq,∅,∅,∅}
   .exact{.row n q hn hq,∅,∅,∅}
   .exact{.number r,∅,∅,∅}
  refine{2,f,os,lo,rfl,aK.of a,J,R,λH3 C=>{true,rfl,aC {_,rfl,rfl,false,congrArg V.bl e1,aC ?_}}};have d:=I.trans C;refine{1,x,L.bp,S,_,1,d _ _ hx,L.bR.cl,L.bR.mN,Ch _ _,rfl,false,rfl,aC {1,rfl,false,congrArg V.bl e2,aC {1,by show 3<=sizeLine;decide,λt ht=>?_}}};have p:=d.trans (a7.upd (o:=.tup [.str "count",.str "row",.str "number"]) ht);refine{t,1,.inr (eI.of a5),rfl,rfl,true,congrArg V.bl e3,bH {1,x,L.bp,S,_,1,p _ _ hx,L.bR.cl,L.bR.mN,Ch _ _,2,X,lo,f,g,os,y,ss,ls,rfl,B.same p,aK.of (a7.upd ht _ _ (C _ _ a)),w1,nd,g4,DQ,?_}};rcases hc with⟨n,u,a,D,k⟩ |⟨n,q,r,u,a,D,T,O,k⟩ |⟨n,q,u,a,D,T,O,k⟩ |⟨r,u,a,D,hk⟩
  .exact .inl {n,u,a,D,λz G=>k z (p.trans G)}
  .exact .inr (.inl {n,q,r,u,a,D,T,O,λz G=>k z (p.trans G)})
  .exact .inr (.inr (.inl {n,q,u,a,D,T,O,λz G=>k z (p.trans G)}))
  .refine .inr (.inr (.inr {r,u,a,D,?_}));rcases hk with⟨q,U,k2,k⟩ |⟨n,U,k2,k⟩ |⟨i,U,k⟩
   .exact .inl {q,U,k2,λz G=>k z (p.trans G)}
   .exact .inr (.inl {n,U,k2,nX.same k p})
   .exact .inr (.inr {i,U,nX.same k p})
theorem aV(L:Lk K mg):aH P w K mg base dk 13 L.ir L.iy ["_law_desk","_law_row"] (m6 K L.bp L.al L.bu L.b9 L.aU L.bz L.aO L.b8 L.aA):=by
 refine L.aQ.F.fG (N:=["_law_desk","_law_row","_law_caught_here","_law_found","e"]) (λl A outer s H B Q E nd n h=>?_)
 let{x,f,v,r,ps,rfl,hx,o,q,c,d,t}:=h
 refine{_,(a0 (ah (i:=2) cU)
  (a0 (ah (i:=3) cU)
  (a0 (DK ⟨rfl,rfl⟩ (yI (Bi (i:=3) nd rfl (Rv rfl) (yL (0) L.bR.cl L.iV.m (tH L) (n.mono ⋯) L.iV.b (aB (1))))) rfl L.dj L.XT nd (j:=4) (i:=2) rfl rfl rfl (Rv rfl))
  (a6 (ai (gw (a4 (3) (aB (2))))))))),?_}
 ac_rfl
 refine{1,x,f,1,hx,mJ (by show ("say":Str)∉[("band":Str),"writer"];decide+kernel),1,x,f,v,r,ps,rfl,hx,o,q,c,d,t.mono (λu y k=>?_) (λD G y k=>?_)}
 .refine{2,by show 2<=sizeLine;decide,λp a=>k p _ (a7.upd a) a5}
 .let{C,z,rfl,U,k}:=k
  refine{C,z,rfl,U,λe g=>{2,by show 2<=sizeLine;decide,λp a=>?_}};exact k e p _ ((a7.upd g).trans (a7.upd a)) g (a7.upd a _ _ a5) a5
theorem bG(L:Lk K mg):aH P w K mg base dk 14 L.gQ L.lu ["_law_desk","_law_row","_law_due"] (gL K L.bp L.al L.bu L.b9 L.aU L.bz L.aO L.b8):=by
 have T:=L.T;refine L.bB.F.fG (N:=["_law_desk","_law_row","_law_due","_law_found","_law_caught_here"]) (λa A outer s H t Q E nd e h=>?_)
 let{x,f,v,r,g,ps,rfl,hx,j,l,b,c,m}:=h
 have d:(A.deeper (UT "_law_said" (ak (top 112)) s.heap.objs.size L.gQ a)).units<Rq:=e.yn
 refine{_,(a0 (fx (af (aV L) L.aQ (a4 (0) (aB (1)))) (cG rfl (az (aj (i:=3)) (az (aj (i:=4)) bN))))
  (a6 (ai (gz (bO mr (4) cU (fv _)) (gz (aD cw (by rfl) T.vF jf (a4 (3) (aB (hM (v:=.ty "str") (by rfl) T.str kd rfl)))) (k7 (bO (DT d) (3) (2) (fv _)))))))),?_}
 ac_rfl
 refine{2,x,f,v,r,ps,rfl,hx,j,l,b,c,m.mono (λu y k p n o q=>?_) (λ_ _ _ k=>k.elim)}
 let{rfl,k}:=k
 refine{p,1,eI.of q,rfl,_,1,_,1,rfl,?_};exact{1,rfl,true,rfl,bH {1,_,_,_,true,rfl,dE.str _,rfl,true,rfl,bH {2,rfl,.flat rfl,k n o}}}
theorem eN(L:Lk K mg):aH P w K mg base dk 15 L.jt L.jF ["_law_desk","_law_signs_here","_law_words_here","_law_length"] (xf K L.bp L.al):=by
 have T:=L.T;refine L.dH.F.fG (N:=["_law_desk","_law_signs_here","_law_words_here","_law_length","_law_rows","_law_number"]) (λC A outer s H O Q E nd d h=>?_)
 let{x,R,S,t,g,b,ss,ls,n,rfl,A,D,e,hn,k}:=h
 refine{_,(a0 (ah (i:=4) (af (eG L) L.cY (a4 (1) (a4 (2) (aB (3))))))
  (a0 (aG (aY (aN (af (bG L) L.bB (a4 (0) (a4 (ay av ao (aL bY (by rfl) T.str kd (aB (3)))) (aB (aL bY (by rfl) T.str kd (aB (Aa T.len (4)))))))))) (a6 (ai bI)) aq)
  (a0 (forA (cu rfl T.range (aB (Aa T.len (4)))) (aj (i:=5)) (a0 (aG (aY (aN (af (bG L) L.bB (a4 (0) (a4 (ay av (ay av (ay av ao (aL bY (by rfl) T.str kd (aB (3)))) ao) (aL bY (by rfl) T.str kd (aB (5)))) (aB (aF aM (4) (5) (λ_ _=>rfl)))))))) (a6 (ai bI)) aq)
  (a6 (aG (aY (aN (af (bG L) L.bB (a4 (0) (a4 (ay av ao (aF aM (4) (5) (λ_ _=>rfl))) (aB (aL bY (by rfl) T.str kd (aB (5))))))))) (a6 (ai bI)) aq))))
  (a6 (ai bI))))),?_}
 ac_rfl
 have g2:=A.sg.lo;have U:=A.sg.hi;have w1:∀w∈b,1<=w.9:=λw hw=>(A.wd w hw).lo;refine{3,g,t,b,n,rfl,D,A.ul,e,g2,1.0,hn,λl G u _ m=>?_}
 have v:(c6 g b "" n).9<=100:=by
  rw[<-lX];exact Od (Rg _ _) (by rw[je];exact e)
 have nl:=dh (n:=n) 1.0;have a:∀i:Nat,i<=1000->(i:Int).natAbs.log2<1920:=λi hi=>qI 1.0 (Vg (show (i:Int)<10^10 by omega) ∅);have y:=A.same u;have f:((c6 g b "" n).map V.str).9=(c6 g b "" n).9:=O5 _;refine{2,(n:Int),rfl,a n 1.0,_,1,rfl,aa (by show 6+(aE n).9<=_;omega),1,l,1,.inl (aK.of m),1,a _ 1.0,y.count 1.0 rfl (by rw[f]) λX z=>{true,rfl,aC ?_}};refine{1,l,1,.inl (aK.of (z _ _ m)),1,1.0,1.0,?_};rw[Pb,f];refine cp (lo:=0) (n:=(c6 g b "" n).9) (λi σ o=>∃p,σ=[ρ (.ref x),ρ (.str g),ρ (.ref t),ρ (.int (n:Int)),ρ (.ref l),p]/\a7 G o) ⟨τ,rfl,z⟩ ?_ ?_
 .rintro i σ o hi ⟨p,rfl,c⟩;rw[Int.zero_add];obtain⟨r,d⟩:∃r,(c6 g b "" n)[i]?=ρ r:={_,P1 hi};have j:iY ((c6 g b "" n).map V.str) (i:Int)=ρ (.str r):=aw (by rw[OC,d];rfl);have Y:=dh (n:=i) 1.0;have B:=y.same c;have I:(("row ":Str)++aE n).9=4+(aE n).9:=len_app _ _;have Z:(("row ":Str)++aE n++(" ":Str)).length=4+(aE n).9+1:=by rw[len_app,I];rfl
  let{_,J,_}:=qA (Ox d)
  refine{2,(n:Int),rfl,a n 1.0,_,1,rfl,aa (by show 4+(aE n).9<=_;omega),_,1,rfl,aa (by show (("row ":Str)++aE n).9+1<=_;omega),1,(i:Int),rfl,a i 1.0,_,1,rfl,aa (by show (("row ":Str)++aE n++(" ":Str)).length+(aE i).9<=_;omega),?_};refine{2,l,_,_,1,rfl,aK.of (c _ _ m),j,B.row 1.0 1.0 d λH4 q=>{true,rfl,aC ?_}};refine{3,l,_,_,1,rfl,aK.of ((c.trans q) _ _ m),j,_,1,rfl,aa (by show 7+r.9<=_;omega),1,(i:Int),rfl,a i 1.0,(B.same q).number 1.0 1.0 d λH5 M=>{true,rfl,aC ?_}};exact{1,c.trans (q.trans M)}
 .rintro σ o ⟨p,rfl,c⟩;exact k o (u.trans c)
theorem lL(L:Lk K mg):aH P w K mg base dk 14 L.gR L.gW ["_law_desk","_law_signs_here","_law_words_here","_law_length","_law_many"] (zo K L.bp L.al):=by
 have T:=L.T;refine L.hA.F.fG (N:=["_law_desk","_law_signs_here","_law_words_here","_law_length","_law_many","_law_found","_law_caught_here","_law_word_here","_law_row","_law_number"]) (λhH A outer s H vs Q E nd hr h=>?_)
 let{x,dx,xb,lw,g,r,ss,ls,n,rfl,A,hW,Iz,hn,k}:=h
 refine{_,(a0 (fx (af (aV L) L.aQ (a4 (0) (aB (ay av (ay av (ay av ao (aL bY (by rfl) T.str kd (aB (3)))) ao) (aL bY (by rfl) T.str kd (aB (4))))))) (cG rfl (az (aj (i:=5)) (az (aj (i:=6)) bN))))
  (a0 (aG (PW.pt (cQ (aY (aN (aD cy (by rfl) T.vF jf (a4 (6) (aB (c9 (v:=.ref L.bu) (by rfl) L.nN rfl)))))) (cE (aN (aD cy (by rfl) T.vF jf (a4 (6) (aB (c9 (v:=.ref L.b9) (by rfl) L.rh rfl)))))))) (a6 (ai bI)) aq)
  (a0 (fx (af (aV L) L.aQ (a4 (0) (aB (ay av (ay av (ay av ao (aF fy (1) a9 (λ_ _=>rfl))) ao) (1))))) (cG rfl (az (aj (i:=5)) (az (aj (i:=6)) bN))))
  (a0 (aG (PW.pt (cQ (aY (aN (aD cy (by rfl) T.vF jf (a4 (6) (aB (c9 (v:=.ref L.b9) (by rfl) L.rh rfl)))))) (cE (bE vm (m8 (6) rfl) a9)))) (a6 (ai bI)) aq)
  (a0 (forA (bP (cH ro (2) dD (dF a9))) (aj (i:=7)) (a0 (fx (af (aV L) L.aQ (a4 (0) (aB (ay av ao (7))))) (cG rfl (az (aj (i:=5)) (az (aj (i:=6)) bN))))
  (a6 (aG (PW.pt (cQ (aY (aN (aD cy (by rfl) T.vF jf (a4 (6) (aB (c9 (v:=.ref L.aU) (by rfl) L.sX rfl)))))) (cE (bE j7 (m8 (6) rfl) (vv T.len (7)))))) (a6 (ai bI)) aq))))
  (a0 (fx (af (aV L) L.aQ (a4 (0) (aB (ay av (ay av (ay av ao (aF fy (1) a9 (λ_ _=>rfl))) ao) (aF fy (1) a9 (λ_ _=>rfl)))))) (cG rfl (az (aj (i:=5)) (az (aj (i:=6)) bN))))
  (a0 (aG (aY (aN (aD cy (by rfl) T.vF jf (a4 (6) (aB (c9 (v:=.ref L.bz) (by rfl) L.kt rfl)))))) (a6 (ai bI)) aq)
  (a0 (fx (af (aV L) L.aQ (a4 (0) (aB (ay av (ay av ao (1)) (ay vr (ay av ao (aF fy (1) a9 (λ_ _=>rfl))) a9))))) (cG rfl (az (aj (i:=5)) (az (aj (i:=6)) bN))))
  (a0 (aG (PW.pt (cQ (aY (aN (aD cy (by rfl) T.vF jf (a4 (6) (aB (c9 (v:=.ref L.aO) (by rfl) L.pK rfl)))))) (cE (bE vm (m8 (6) rfl) a9)))) (a6 (ai bI)) aq)
  (a0 (fx (af (aV L) L.aQ (a4 (0) (aB ao))) (cG rfl (az (aj (i:=5)) (az (aj (i:=6)) bN))))
  (a0 (aG (aY (aN (aD cy (by rfl) T.vF jf (a4 (6) (aB (c9 (v:=.ref L.bz) (by rfl) L.kt rfl)))))) (a6 (ai bI)) aq)
  (a0 (forA (bP (fz (a4 (gw (a4 (ay av (ay av (ay av ao (aF fy (1) a9 (λ_ _=>rfl))) ao) (aF fy (1) a9 (λ_ _=>rfl))) (aB a9))) (a4 (gw (a4 ao (aB a9))) (aB (gw (a4 (ay av ao (ay vr (aF fy (1) a9 (λ_ _=>rfl)) a9)) (aB a9)))))))) (cG rfl (az (aj (i:=8)) (az (aj (i:=9)) bN))) (a0 (fx (af (aV L) L.aQ (a4 (0) (aB (ay av (ay av ao (1)) (8))))) (cG rfl (az (aj (i:=5)) (az (aj (i:=6)) bN))))
  (a6 (aG (PW.pt (cQ (aY (aN (aD cy (by rfl) T.vF jf (a4 (6) (aB (c9 (v:=.ref L.b8) (by rfl) L.sU rfl)))))) (cE (bE vm (m8 (6) rfl) (9))))) (a6 (ai bI)) aq))))
  (a6 (ai bI)))))))))))))),?_}
 ac_rfl
 have g2:=A.sg.lo;have g4:=A.sg.hi
 let{b,J,cr,eg}:=wX A.sg
 have M:iY g.cps.toList 0=ρ b:=by
  show iY (ch g) ((0:Nat):Int)=ρ b;rw[eg];exact aw rfl
 have h1:iY g.cps.toList 1=ρ J:=by
  show iY (ch g) ((1:Nat):Int)=ρ J;rw[eg];exact aw rfl
 have O:b∈ch g:=by rw[eg];exact Ot
 have m1:J∈ch g:=by rw[eg];exact Of _ Ot
 have R:=ji A.sg;have f0:32∉ch ({#[b]}:Str):=λz=>R ((Oz.mp z) ▸ O);have f1:32∉ch ({#[J]}:Str):=λz=>R ((Oz.mp z) ▸ m1);have B:g.9<=sizeLine:=aa 1.0;have X:∀i:Nat,i<=1000->(i:Int).natAbs.log2<1920:=λi hi=>qI 1.0 (Vg (show (i:Int)<10^10 by omega) ∅);have nl:=dh (n:=n) 1.0;have ml:=dh (n:=(c6 g r "" n).9) 1.0;have e1:(("row ":Str)++aE n).9=4+(aE n).9:=len_app _ _;have e2:(("row ":Str)++aE n++(" ":Str)).length=4+(aE n).9+1:=by rw[len_app,e1];rfl
 have hD:∀{H3:Hp} {d':Addr} {f:Str} {i:Int},H3 d'=ρ (.xd [(f,.int i)])->∀d,ρ d'=ρ d->∃fs,H3 d=ρ (.xd fs):=λh d e=>by cases e;exact{_,h}
 refine{2,(n:Int),rfl,X n 1.0,_,1,rfl,aa (by show 4+(aE n).9<=_;omega),_,1,rfl,aa (by show (("row ":Str)++aE n).9+1<=_;omega),2,X _ 1.0,_,1,rfl,aa (by show (("row ":Str)++aE n++(" ":Str)).length+(aE (c6 g r "" n).9).9<=_;omega),?_};refine A.over 1.0 1.0 (Ob _) L.en λe p H1 s1 o l=>{p,1,eI.of l,rfl,_,1,_,1,rfl,?_};refine{1,_,_,true,rfl,.exc o (λd h=>nomatch h) L.en L.nO dX,true,rfl,aC {1,_,_,false,rfl,.exc o (λd h=>nomatch h) L.en L.nO (A2 L.en L.fK L.XT ∅ ∅),false,rfl,aC ?_}};have A1:=A.same s1;have cA:∀c∈ch g,c≠65:=λc hc z=>(by decide+kernel:65∉ch cK) (z ▸ A.sg.sub _ hc);have eo:ch (({#[b]}:Str)++(("A":Str)++g))=b::65::ch g:=by rw[ag,ag];rfl
 have lo:(({#[b]}:Str)++(("A":Str)++g)).9=2+g.9:=by rw[<-au,eo,Ov,Ov,au];omega
 have ho:Out g (({#[b]}:Str)++(("A":Str)++g)) 1:=by
  refine{⟨65,by rw[eo];rfl,λz=>cA _ z rfl⟩,λj c hj e=>?_};obtain rfl:j=0:=1.0;rw[eo]at e;exact(Oc e) ▸ O
 have ME:32∉ch (({#[b]}:Str)++(("A":Str)++g)):=by
  rw[eo];intro z;rcases Oi.mp z with z |z
  .exact R (z ▸ O)
  rcases Oi.mp z with z |z
  .cases z
  .exact R z
 refine⟨_,rfl,_,rfl,g,0,b,rfl,rfl,B,M,_,_,rfl,rfl,aa (by show 7+1<=_;omega),_,_,rfl,rfl,aa (by rw[len_app];show 7+1+1<=_;omega),_,rfl,_,_,rfl,rfl,aa (by rw[len_app,len_app];show 7+1+1+_<=_;omega),?_⟩;refine A1.FQ (by rw[cx,cx]) 1.0 ME (.inr ⟨1,ho,GB L.fK λe d p H2 s2 o hd l=>?_⟩);refine{p,1,eI.of l,rfl,_,1,_,1,rfl,?_};refine{1,_,_,true,rfl,.exc o (hD hd) L.fK L.BM dX,true,rfl,aC {1,e,L.b9,L.aA,d,_,_,.int 1,rfl,o,hd,L.fK,L.hF,by simp,rfl,false,rfl,aC ?_}};have Y:=s1.trans s2;refine{2,lw,1,Y.seq hW,λS Fg=>?_};rw[G0];have q:a7 H2 (upd H2 S (.lst ((r.take 1).map V.str))):=a7.upd Fg;have g3:(upd H2 S _) S=ρ (.lst ((r.take 1).map V.str)):=a5;generalize upd H2 S _=H3 at q g3;have Z:=Y.trans q;refine{S,rfl,{_,aK.of g3},eR (K:=K) (a:=S) (xs:=(r.take 1).map V.str) (λi σ C=>∃D v6 G,σ=[ρ (.ref x),ρ (.str g),ρ (.ref lw),ρ (.int (n:Int)),ρ (.int ((c6 g r "" n).9:Int)),D,v6,G,τ,τ]/\a7 H3 C) {_,_,1,a7.refl _} (λi σ C _ {_,_,_,_,u}=>aK.of (u _ _ g3)) ?_ ?_}
 .rintro i y σ C hy ⟨D,v6,G,rfl,u⟩
  let{wd,1,_,hm,_}:=gD hy
  have hm:=Rm hm;have Wv:=A.wd wd hm;have w5:=Wv.hi
  let{m,hb}:=Bad.ex (λw hw=>(A.wd w hw).lo) (PR.mpr {wd,hm,(vz wd wd).mpr (List.infix_refl _)}:bears r wd=true)
  have JF:=hb.lt;refine{2,_,1,rfl,aa (by show 7+wd.9<=_;omega),?_};refine(A.same (Z.trans u)).FQ rfl 1.0 (m4 A.sg Wv) (.inl {m,Wv.sub,hb,GB L.fk λe d p H5 s5 o hd l=>?_});refine{p,1,eI.of l,rfl,_,1,_,1,rfl,?_};refine{1,_,_,true,rfl,.exc o (hD hd) L.fk L.zX dX,true,rfl,aC {1,e,L.aU,L.aA,d,_,_,.int ((m:Int)+1),rfl,o,hd,L.fk,L.g8,by simp,1,wd,rfl,aa 1.0,_,1,rfl,false,congrArg V.bl (decide_eq_false 1.0),aC ?_}};exact{_,_,1,u.trans s5}
 rintro σ C ⟨D,v6,G,rfl,u⟩;have GH:=Z.trans u;refine⟨_,rfl,_,rfl,g,0,b,rfl,rfl,B,M,_,_,rfl,rfl,aa (by show 5+1<=_;omega),_,_,rfl,rfl,aa (by rw[len_app];show 5+1+1<=_;omega),_,rfl,g,0,b,rfl,rfl,B,M,_,_,rfl,rfl,aa (by rw[len_app,len_app];show 5+1+1+1<=_;omega),?_⟩;refine rj (z:={#[b]}) (vs:=[{#[b]}]) (GH _ _ A.hx) (bh (by rw[fF];simp[ag,Fy,Fz])) (pw f0 f0) (by rw[len_app,len_app,len_app];exact(show 5+1+1+1<=1000 by decide)) (show 1<=100 by decide) (.inl {Dv b,(show 1<=100 by decide),IC L.fi λe p H5 s5 o l=>?_});refine{p,1,eI.of l,rfl,_,1,_,1,rfl,?_};refine{1,_,_,true,rfl,.exc o (λd h=>nomatch h) L.fi L.pJ dX,true,rfl,aC ?_};have K3:=GH.trans s5;have l7:(QM ((" ":Str)++({#[b]}:Str)) 7).9=14:=(qD ((" ":Str)++({#[b]}:Str)) 7).trans (by rw[len_app];rfl);refine⟨_,rfl,_,rfl,_,_,rfl,rfl,aa (by show 5+g.9<=_;omega),_,rfl,g,0,b,rfl,rfl,B,M,_,_,rfl,rfl,aa (by show 1+1<=_;omega),_,_,rfl,rfl,yV (n:=7) ⋯ (by rw[len_app];exact(show (1+1)*7<=1000000 by decide)),_,_,rfl,rfl,aa (by rw[l7,len_app];show 5+g.9+14<=_;omega),?_⟩
 have e7:("band ":Str)++g++QM ((" ":Str)++({#[b]}:Str)) 7=P6 SP ("band" :: g::P9 7 {#[b]}):=bh (by
  have e:=uz ((" ":Str)++({#[b]}:Str)) 7;have e:ch (QM ((" ":Str)++({#[b]}:Str)) 7)=_:=e;rw[fF,ag,ag,e,ag,Fy,Fz]
  simp)
 have MF:∀p∈g::P9 7 ({#[b]}:Str),32∉ch p:=λp l=>by
  rcases Oi.mp l with rfl |l
  .exact R
  .rw[(R9.mp l).2];exact f0
 refine rj (K3 _ _ A.hx) e7 MF (by rw[len_app,len_app,l7];show 5+g.9+14<=_;omega) (show 7<=100 by decide) (.inr {A.sg,(show 7<=100 by decide),λw hw=>.inl ((R9.mp hw).2 ▸ kf O),.inl {(show 6<7 by decide),GB L.dM λe d p H6 s6 o hd l=>?_}});refine{p,1,eI.of l,rfl,_,1,_,1,rfl,?_};refine{1,_,_,true,rfl,.exc o (hD hd) L.dM L.xA dX,true,rfl,aC {1,e,L.aO,L.aA,d,_,_,.int 7,rfl,o,hd,L.dM,L.hB,by simp,rfl,false,rfl,aC ?_}};have K4:=K3.trans s6;refine{1,rj (z:="") (vs:=[]) (K4 _ _ A.hx) ∅ (λp l=>by rw[Oz.mp l];decide+kernel) ∅ (OZ _) (.inl {.inl ∅,∅,IC L.fi λe p H7 s7 o l=>?_})};refine{p,1,eI.of l,rfl,_,1,_,1,rfl,?_};refine{1,_,_,true,rfl,.exc o (λd h=>nomatch h) L.fi L.pJ dX,true,rfl,aC ?_};have MG:=K4.trans s7;have ra:=DG A.sg O m1;have rb:=DH (g:=g);have rc:=DI A.sg O;have l6:(QM ({#[b]}:Str) 6).9=6:=qD ({#[b]}:Str) 6;refine⟨_,rfl,g,0,b,rfl,rfl,B,M,_,_,rfl,rfl,aa (by show 1+1<=_;omega),_,_,rfl,rfl,aa (by rw[len_app];show 1+1+2<=_;omega),_,rfl,g,1,J,rfl,rfl,B,h1,_,_,rfl,rfl,aa (by rw[len_app,len_app];show 1+1+2+1<=_;omega),by show 2<=sizeLine;decide,λt1 MH=>?_⟩;generalize (" ":Str)++({#[b]}:Str)++("  ":Str)++({#[J]}:Str)=za at ra;have u1:a7 H7 (upd H7 t1 (.tup [.str za,.int 1])):=a7.upd MH;have g1:(upd H7 t1 _) t1=ρ (.tup [.str za,.int 1]):=a5;generalize upd H7 t1 _=H8 at u1 g1;refine{by show 2<=sizeLine;decide,λt2 MI=>?_};have u2:a7 H8 (upd H8 t2 (.tup [.str " ",.int 0])):=a7.upd MI;have K5:(upd H8 t2 _) t2=ρ (.tup [.str " ",.int 0]):=a5;generalize upd H8 t2 _=H9 at u2 K5;refine⟨_,rfl,g,0,b,rfl,rfl,B,M,_,_,rfl,rfl,yV (n:=6) ⋯ (show 1*6<=1000000 by decide),_,_,rfl,rfl,aa (by rw[l6];show 1+6<=_;omega),by show 2<=sizeLine;decide,λq MJ=>?_⟩;generalize (" ":Str)++QM ({#[b]}:Str) 6=zc at rc;have u3:a7 H9 (upd H9 q (.tup [.str zc,.int 0])):=a7.upd MJ;have K6:(upd H9 q _) q=ρ (.tup [.str zc,.int 0]):=a5;generalize upd H9 q _=Ha at u3 K6;refine{by show 3<=sizeLine;decide,λU Fh=>?_};have u4:a7 Ha (upd Ha U (.lst [.ref t1,.ref t2,.ref q])):=a7.upd Fh;have I:(upd Ha U _) U=ρ (.lst [.ref t1,.ref t2,.ref q]):=a5;generalize upd Ha U _=Hb at u4 I;have K7:=MG.trans (u1.trans (u2.trans (u3.trans u4)))
 have all:∀y∈[V.ref t1,V.ref t2,V.ref q],∃(t:Addr) (z:Str) (i:Nat),y=.ref t/\Hb t=ρ (.tup [.str z,.int (i:Int)])/\vJ g z i:=by
  simp only[Oi,QP,or_false];rintro y (rfl |rfl |rfl)
  .exact⟨t1,_,1,rfl,(u2.trans (u3.trans u4)) _ _ g1,ra⟩
  .exact⟨t2,_,0,rfl,(u3.trans u4) _ _ K5,rb⟩
  .exact⟨q,_,0,rfl,u4 _ _ K6,rc⟩
 refine{U,rfl,{_,aK.of I},eR (K:=K) (a:=U) (xs:=[.ref t1,.ref t2,.ref q]) (λi σ C=>∃D v6 G v8 v9,σ=[ρ (.ref x),ρ (.str g),ρ (.ref lw),ρ (.int (n:Int)),ρ (.int ((c6 g r "" n).9:Int)),D,v6,G,v8,v9]/\a7 Hb C) {_,_,_,_,1,a7.refl _} (λi σ C _ {_,_,_,_,_,_,u}=>aK.of (u _ _ I)) ?_ ?_}
 .rintro j y σ Hc hy ⟨D,v6,G,v8,v9,rfl,sc⟩
  let{t,z,i,rfl,ht,{{vs,wd,e1,e2,e3,e4,e5,e6,e7,e8},zl}}:=all _ (Ox hy)
  refine{t,1,eI.of (sc _ _ ht),rfl,_,1,_,1,rfl,?_};have gl:(("band ":Str)++g).9=5+g.9:=len_app _ _;refine{2,_,1,rfl,aa (by show 5+g.9<=_;omega),1,_,1,rfl,aa 1.0,?_};refine rj ((K7.trans sc) _ _ A.hx) e1 (λp l=>?_) (by rw[len_app];omega) 1.0 (.inr {A.sg,1.0,e4,.inr {e3,i,wd,e5,e6,e7,e8,GB L.fj λe d p Hd s6 o hd l=>?_}})
  .rcases Oi.mp l with rfl |l
   .exact R
   .exact e2 p l
  refine{p,1,eI.of l,rfl,_,1,_,1,rfl,?_};refine{1,_,_,true,rfl,.exc o (hD hd) L.fj L.zU dX,true,rfl,aC {1,e,L.b8,L.aA,d,_,_,.int (i:Int),rfl,o,hd,L.fj,L.g7,by simp,1,rfl,false,CK _,aC ?_}};exact{_,_,_,_,1,sc.trans s6}
 .rintro σ Hc ⟨D,v6,G,v8,v9,rfl,sc⟩;exact k Hc (K7.trans sc)
theorem DW{f:Addr}{fd:P0}(L:Lk K mg)(F:oO K "law" "law" (top 115) f fd):aH P w K mg base dk 16 f fd ["_law_script"] (vE K):=by
 have T:=L.T;refine F.fG (N:=["_law_script","_law_first","_law_second","_law_desk","_law_other","_law_lengths","_law_many","_law_found","_law_caught_here"]) (λhH A outer s H vs Q E nd hr h=>?_)
 let{a,ns,rfl,hS,hlen,k}:=h
 refine{_,(a0 (ah (i:=1) (af (ft L) L.dv (a4 (0) (aB a9))))
  (a0 (ah (i:=2) (af (ft L) L.dv (a4 (0) (aB a9))))
  (a0 (ah (i:=3) (rZ L.vR (fo L) (hr.mono ⋯) rfl L.zM L.dz.b .nil rM))
  (a0 (ah (i:=4) (rZ L.vR (fo L) (hr.mono ⋯) rfl L.zM L.dz.b .nil rM))
  (a0 (iM (i:=5) rfl (bg ["_law_script"] [0]) nd rfl rfl (bP (fz (a4 (1) (aB (2))))) (λ_ _ _ _ _ _=>cf) (λ_ _ _ _ _ _=>(ay dn (af (dI L) L.di (a4 (1) (aB a9))) (aF (yu (K:=K) rfl) (fz (a4 a9 (a4 a9 (aB a9)))) (ay mx (vv T.len (aF (Br (K:=K) rfl) (0) a9 (λ_ _=>rfl))) a9) (λ_ _=>rfl)))))
  (a0 (aG (PW.pt (cQ (aY (aN (af (bG L) L.bB (a4 (3) (a4 (aF cF (1) a9 (λ_ _=>rfl)) (aB ao)))))) (cE (aY (aN (af (eN L) L.dH (a4 (3) (a4 (aF cF (1) a9 (λ_ _=>rfl)) (a4 (aF cF (1) a9 (λ_ _=>rfl)) (aB (aF aM (5) a9 (λ_ _=>rfl)))))))))))) (a6 (ai bI)) aq)
  (a0 (aG (PW.pt (cQ (aY (aN (af (bG L) L.bB (a4 (4) (a4 (aF cF (1) a9 (λ_ _=>rfl)) (aB ao)))))) (cE (aY (aN (af (bG L) L.bB (a4 (3) (a4 (aF cF (2) a9 (λ_ _=>rfl)) (aB ao))))))))) (a6 (ai bI)) aq)
  (a0 (ah (i:=6) (Aa T.len (af (eG L) L.cY (a4 (aF cF (2) a9 (λ_ _=>rfl)) (a4 (aF cF (2) a9 (λ_ _=>rfl)) (aB (aF aM (5) a9 (λ_ _=>rfl))))))))
  (a0 (aG (aY (aN (af (lL L) L.hA (a4 (3) (a4 (aF cF (2) a9 (λ_ _=>rfl)) (a4 (aF cF (2) a9 (λ_ _=>rfl)) (a4 (aF aM (5) a9 (λ_ _=>rfl)) (aB (6))))))))) (a6 (ai bI)) aq)
  (a0 (aG (PW.pt (cQ (aY (aN (af (eN L) L.dH (a4 (3) (a4 (aF cF (2) a9 (λ_ _=>rfl)) (a4 (aF cF (2) a9 (λ_ _=>rfl)) (aB (aF aM (5) a9 (λ_ _=>rfl))))))))) (cE (aY (aN (af (bG L) L.bB (a4 (3) (a4 ao (aB ao))))))))) (a6 (ai bI)) aq)
  (a0 (fx (af (aV L) L.aQ (a4 (4) (aB ao))) (cG rfl (az (aj (i:=7)) (az (aj (i:=8)) bN))))
  (a0 (aG (PW.pt (cQ (bE vn (8) cU) (cQ (aY (aN (aD (mz rfl) (by rfl) T.all Dl (aB (cJ rfl (bg [] []) (gx (7)) (λ_ _ _ _ _ _=>cf) (λ_ _ _ _ _ _=>(bO eS (0) ao rfl))))))) (cE (bE dg (7) ao))))) (a6 (ai bI)) aq)
  (a6 (ai (af (eN L) L.dH (a4 (4) (a4 (aF cF (1) a9 (λ_ _=>rfl)) (a4 (aF cF (1) a9 (λ_ _=>rfl)) (aB (aF aM (5) a9 (λ_ _=>rfl))))))))))))))))))))),?_}
 ac_rfl
 refine⟨_,rfl,a,ns,0,rfl,hS,⋯,λt1 w1 g1 B H1 s1 G M m O R=>?_⟩;refine⟨_,rfl,a,ns,8,rfl,s1.seq hS,⋯,λt2 w2 g2 u H2 s2 I U C IU IV=>?_⟩;have MK:=s1.trans s2;refine λx dx nx K8 ML=>{x,dx,rfl,a5,λH3 K9 IW=>{rfl,?_}};have s3:a7 H2 H3:=λc o e=>K9 c o (i5 nx K8 _ _ e) (ae e nx);refine λy dy ny Ka MM=>{y,dy,rfl,a5,λH4 Kb Kc=>{rfl,?_}};have s4:a7 H3 H4:=λc o e=>Kb c o (i5 ny Ka _ _ e) (ae e ny);have IX:x≠y:=ae IW ny;have J:=s3.trans s4;have GH:=MK.trans J;have G:=(s2.trans J) _ _ G;have M:=(s2.trans J) _ _ M;have I:=J _ _ I;have U:=J _ _ U;have Kd:=s4 _ _ IW;refine{2,by show 2<=sizeLine;decide,λl5 Ke=>?_};have s5:a7 H4 (upd H4 l5 (.lst [.ref t1,.ref t2])):=a7.upd Ke;have h5:(upd H4 l5 _) l5=ρ (.lst [.ref t1,.ref t2]):=a5;generalize upd H4 l5 _=H5 at s5 h5;have q1:=lY m;have q2:=lY C
 have look:∀{z:V},z∈[V.ref t1,V.ref t2]->∃(t w:Addr) (g r:Str),z=.ref t/\H5 t=ρ (.tup [.str g,.ref w,.str r])/\bZ g:=by
  simp only[Oi,QP,or_false];rintro z (rfl |rfl)
  .exact{t1,w1,g1,_,rfl,s5 _ _ G,m}
  .exact{t2,w2,g2,_,rfl,s5 _ _ I,C}
 refine{l5,rfl,{_,aK.of h5},λll Io=>?_};refine comp_map (Ia ns H5) (cm K l5 [.ref t1,.ref t2]) Io (by show 2<=sizeLine;decide) (λH' s'=>aK.of (s' _ _ h5)) (λz H6 Q' hz s6 qq=>?_) (λH6 s6 h6=>?_)
 .let{t,w,g,r,rfl,ht,sg}:=look hz
  have g4:=sg.hi
  let{qa,qb}:=lY sg
  refine⟨_,rfl,a,ns,16,rfl,(GH.trans (s5.trans s6)).seq hS,⋯,by show 3<=sizeLine;decide,λl7 MN=>?_⟩;have s7:a7 H6 (upd H6 l7 (.lst [.int 5,.int 4,.int 3])):=a7.upd MN;have h7:(upd H6 l7 _) l7=ρ (.lst [.int 5,.int 4,.int 3]):=a5;generalize upd H6 l7 _=H7 at s7 h7;refine{1,t,_,_,1,rfl,eI.of ((s6.trans s7) _ _ ht),aw (j:=0) rfl,g,rfl,aa 1.0,_,1,rfl,l7,_,_,1,rfl,aK.of h7,qa,_,1,rfl,qb,?_};have:=qq H7 s7;rw[ur ht]at this;exact this
 rw[Og,Og,Rf,ur (s5 _ _ G),ur (s5 _ _ I)]at h6
 let{n1,MO,Kf,Kg}:=Jz (dR ns 16) m
 let{n2,MP,IY,IZ}:=Jz (dR ns 16) C
 rw[MO,MP]at h6;have D:=s5.trans s6;have S:Dw H6 t1 w1 t2 w2 ll g1 g2 B u n1 n2:={D _ _ G,D _ _ M,D _ _ I,D _ _ U,h6};have Kh:=D _ _ Kd;have MQ:=D _ _ Kc;clear IW Kd Kc G M I U h6 h5 q1 q2 look Ke Io K9 Kb nx K8 ML ny Ka MM s5 s6 D;refine{2,t1,_,_,1,rfl,eI.of S.t1,aw (j:=2) rfl,ky Kh m O R λxb ss ls Ha J0 Ki Ba Hb sb=>{true,rfl,aC ?_}};have Sb:=(S.past Kh J0).same sb;have Ab:dG L.bp L.al Hb x dx xb g1 B ss ls:={sb _ _ Ki,(Ba.same (hJ _ _)).same sb,m,O,R};have Kj:=sb _ _ (J0 _ _ MQ IX.symm);refine{2,t1,_,_,1,rfl,eI.of Sb.t1,aw (j:=0) rfl,1,t1,_,_,1,rfl,eI.of Sb.t1,aw (j:=1) rfl,1,ll,_,_,1,rfl,aK.of Sb.ll,aw (j:=0) rfl,x,dx,xb,w1,g1,B,ss,ls,n1,rfl,Ab,aK.of Sb.w1,Kf,Kg,λHc sc=>{true,rfl,aC ?_}};have Sc:=Sb.same sc;have J1:=(Ab.same sc).hx;have J4:=sc _ _ Kj;clear Sb Ab Kj Ba Ki J0 sb sc;refine{2,t1,_,_,1,rfl,eI.of Sc.t1,aw (j:=2) rfl,ky J4 m O R λyb X Kk Hd J5 Kl Bd He se=>{true,rfl,aC ?_}};have Se:=(Sc.past J4 J5).same se;have J6:=se _ _ (J5 _ _ J1 IX);have Km:=se _ _ Kl;refine{2,t2,_,_,1,rfl,eI.of Se.t2,aw (j:=2) rfl,ky J6 C IU IV λJ7 J8 J9 Hf Y Kn Bf Hg sG=>{true,rfl,aC ?_}};have Sg:=(Se.past J6 Y).same sG;have Ax:dG L.bp L.al Hg x dx J7 g2 u J8 J9:={sG _ _ Kn,(Bf.same (hJ _ _)).same sG,C,IU,IV}
 have Ay:dG L.bp L.al Hg y dy yb g1 B X Kk:={sG _ _ (Y _ _ Km IX.symm),Bd.same λc o e=>by
  have hn:Hc c=τ:=by
   cases q:Hc c with
   |none=>rfl
   |some _=>unfold dN at e;rw[q]at e;cases e
  exact sG _ _ (Y _ _ (se _ _ (hJ _ _ _ _ e)) (λz=>by rw[z,J1]at hn;cases hn)),m,O,R}
 clear J4 Km J6 J5 Bd Kl se Y Kn Bf sG Sc Se J1;refine{1,t2,_,_,1,rfl,eI.of Sg.t2,aw (j:=0) rfl,1,t2,_,_,1,rfl,eI.of Sg.t2,aw (j:=1) rfl,1,ll,_,_,1,rfl,aK.of Sg.ll,aw (j:=1) rfl,g2,w2,u,n2,rfl,aK.of Sg.w2,IU,IY,C.lo,by have:=C.hi;omega,IZ,λlr Hh sh _ MR=>{lr,1,.inl (aK.of MR),?_}}
 have G6:(c6 g2 u "" n2).9<=100:=by
  rw[<-lX];exact Od (Rg _ _) (by rw[je];exact IY)
 rw[O5];have Sh:=Sg.same sh;refine{2,t2,_,_,1,rfl,eI.of Sh.t2,aw (j:=0) rfl,1,t2,_,_,1,rfl,eI.of Sh.t2,aw (j:=1) rfl,1,ll,_,_,1,rfl,aK.of Sh.ll,aw (j:=1) rfl,1,x,dx,J7,w2,g2,u,J8,J9,n2,rfl,Ax.same sh,aK.of Sh.w2,G6,IZ,λHi si=>{true,rfl,aC ?_}};have Si:=Sh.same si;have Ko:=Ax.same (sh.trans si);refine{2,t2,_,_,1,rfl,eI.of Si.t2,aw (j:=0) rfl,1,t2,_,_,1,rfl,eI.of Si.t2,aw (j:=1) rfl,1,ll,_,_,1,rfl,aK.of Si.ll,aw (j:=1) rfl,x,dx,J7,w2,g2,u,J8,J9,n2,rfl,Ko,aK.of Si.w2,IY,IZ,λHj sj=>{true,rfl,aC ?_}}
 have one:(c6 g2 u "" 0).9=1:=by
  have:=dJ λw hw=>(IV w hw).lo;rw[<-lX];show ([("":Str)].filter λr=>!bears u (""++r)).9=1;rw[Q1 (by rw[jc,this];rfl)];rfl
 refine{1,(Ko.same sj).count (n:=0) ⋯ ∅ (by rw[one];decide+kernel) λHk sk=>{true,rfl,aC ?_}};have Kp:=sh.trans (si.trans (sj.trans sk));have Z:=Ay.same Kp;have Sk:=Sg.same Kp;refine{1,y,dy,_,_,["count",aE 200],rfl,Z.hx,∅,pw ∅ (i9 200),∅,(show 2<=1000 by decide),Z.say (.inl ⟨200,rfl,rfl,⋯,λHl sl p Hm sm hp=>?_⟩)}
 have hz:∃z:Str,OM (toString (cz g1 B X 200 ""))=z/\z.9<=1921/\ch z≠[]/\∀c∈ch z,48<=c/\c<=57:=by
  have hl:=S9 (vN (ws:=B) (ss:=X) m.hi (Ob 200));rw[Z.cnt]at hl ⊢;exact{_,rfl,hl,qG _,gK _}
 let{z,ez,zl,zn,zd}:=hz
 rw[ez]at hp;refine{p,1,eI.of hp,rfl,_,1,_,1,rfl,?_};refine{1,rfl,false,rfl,aC {1,z,rfl,λl hl=>?_}};refine comp_map (λ_=>.bl true) (d9 z) hl (by unfold b2;rw[O5,au];exact aa 1.0) (λ_ _=>trivial) (λv H3 Q' hv s3 q=>?_) (λHn sn Im=>?_)
 .let{d,hd,rfl}:=Ol.mp (show v∈(ch z).map λc=>V.str {#[c]} from hv)
  have:=z6 (zd d hd);refine{1,_,1,rfl,?_};rw[show (!(Q2 (OM "0123456789") ({#[d]}:Str) 0 (OM "0123456789").length 1).isEmpty)=true from this];exact q H3 (a7.refl _)
 refine{l,P9 (b2 z).length true,rfl,aK.of (by rw[Im,VU,SM]),?_};rw[show (P9 (b2 z).length true).all id=true by rw[OD];exact λb hb=>(R9.mp hb).2];refine{true,rfl,aC {1,rfl,false,congrArg V.bl (decide_eq_false λe=>zn ?_),aC ?_}}
 .rw[V.str.inj e];rfl
 have sn:=sl.trans (sm.trans sn);have Sn:=Sk.same sn;exact{2,t1,_,_,1,rfl,eI.of Sn.t1,aw (j:=0) rfl,1,t1,_,_,1,rfl,eI.of Sn.t1,aw (j:=1) rfl,1,ll,_,_,1,rfl,aK.of Sn.ll,aw (j:=0) rfl,y,dy,yb,w1,g1,B,X,Kk,n1,rfl,Z.same sn,aK.of Sn.w1,Kf,Kg,λ_ _=>k _}
end
end K60
end
namespace K60
open PySem PySem.W _L _B _S
theorem nz{K:Frag}{mg:Str->Option Value}{hp:Heap}{x:Str}(X:K.In hp)(G:hp.Ns OG mg)(a:nsIn K OG x=some none:=by k_is):mg x=none:=mg_none_of X G a
theorem na{K:Frag}{C:Addr}{f:Str}(a:findIn K (.ref C) f=some none:=by k_is):aP K C f:=a
theorem MS{K:Frag}{mg:Str->Option Value}{hp:Heap}{f:Addr}{oc:Value}{od an:Option Addr}{y0:Array (Option Value)}{kV doc pm hH ct:Value}{nm:Str}{st:Stmt}{ps:List Str}(X:K.In hp)(G:hp.Ns OG mg)(a:nsIn K OG nm=some (some (.ref f)):=by k_is)(l:K.lookup f=some ⟨oc,od,.func (fnOf nm nm (bC st) (bc st) (ak st) .none kV doc pm an hH ct),y0⟩:=by k_is)(c:codeIn K hH nm=true:=by k_is)(k:keepIn K (.ref f)=true:=by k_is)(b:∀(kV doc pm:Value) (an:Option Addr) (hH ct:Value) (us:List Value),us.length=ps.length->bindArgs (fnOf nm nm (bC st) (bc st) (ak st) .none kV doc pm an hH ct) ⟨us,[]⟩=pure (ps.zip us):=by intro _ _ _ _ _ _;refine _L.y9 _ _ ?_;(repeat refine λ_=>?_);rfl):∃fd,FnAt K mg nm st ps f fd:=Raw.at_ X G a (uq l c k) b
theorem MT{K:Frag}{C f:Addr}{oc:Value}{od an:Option Addr}{y0:Array (Option Value)}{kV doc pm hH ct:Value}{nm q:Str}{st:Stmt}{ps:List Str}(a:findIn K (.ref C) nm=some (some (.ref f)):=by k_is)(i:isFn K (.ref f)=true:=by k_is)(l:K.lookup f=some ⟨oc,od,.func (fnOf nm q (bC st) (bc st) (ak st) .none kV doc pm an hH ct),y0⟩:=by k_is)(c:codeIn K hH q=true:=by k_is)(k:keepIn K (.ref f)=true:=by k_is)(b:∀(kV doc pm:Value) (an:Option Addr) (hH ct:Value) (us:List Value),us.length=ps.length->bindArgs (fnOf nm q (bC st) (bc st) (ak st) .none kV doc pm an hH ct) ⟨us,[]⟩=pure (ps.zip us):=by intro _ _ _ _ _ _;refine _L.y9 _ _ ?_;(repeat refine λ_=>?_);rfl):∃fd,aZ K C nm q st ps f fd:=by
 obtain⟨fd,F,B⟩:=(uq l c k).fn b;exact⟨fd,F,B,a,i,k⟩
theorem MU{K:Frag}{mg:Str->Option Value}{hp:Heap}{x:Str}{t:Tok}(X:K.In hp)(G:hp.Ns OG mg)(a:nsIn K OG "KNOWN_SIGNS"=some (some (.str x t)):=by k_is)(e:x=cK:=by first |rfl |decide+kernel):∃t,mg "KNOWN_SIGNS"=some (.str cK t):=⟨t,e ▸ mg_of X G a⟩
theorem MV{K:Frag}{mg:Str->Option Value}{hp:Heap}{x:Str}{t:Tok}(X:K.In hp)(G:hp.Ns OG mg)(a:nsIn K OG "FIGURES"=some (some (.str x t)):=by k_is)(e:x=OM "0123456789":=by first |rfl |decide+kernel):∃t,mg "FIGURES"=some (.str (OM "0123456789") t):=⟨t,e ▸ mg_of X G a⟩
theorem Cr{K:Frag}{f:Addr}{oc:Value}{od an:Option Addr}{y0:Array (Option Value)}{kV doc pm hH ct:Value}{nm q:Str}{st:Stmt}{ps:List Str}(l:K.lookup f=some ⟨oc,od,.func (fnOf nm q (bC st) (bc st) (ak st) .none kV doc pm an hH ct),y0⟩:=by k_is)(c:codeIn K hH q=true:=by k_is)(k:keepIn K (.ref f)=true:=by k_is)(b:∀(kV doc pm:Value) (an:Option Addr) (hH ct:Value) (us:List Value),us.length=ps.length->bindArgs (fnOf nm q (bC st) (bc st) (ak st) .none kV doc pm an hH ct) ⟨us,[]⟩=pure (ps.zip us):=by intro _ _ _ _ _ _;refine _L.y9 _ _ ?_;(repeat refine λ_=>?_);rfl):∃fd,oO K nm q st f fd/\Binds K fd ps []:=(uq l c k).fn b
theorem walk{l:Sl}{q:Om}{loose:List Str}{XP:(Str->Option Value)->Heap->Prop}{YP:World->Heap->Prop}{d:DefRec}{K:Params->O4}(hn:l.most=some 63)(MX:d.params.defaults=[])
 (hY:∀(w:World) (h:Heap),YP w h->(K w.params).In h)
 (F:∀(w:World) (mg:Str->Option Value) (fa:Addr) (h:Heap),(K w.params).In h->h.Ns OG mg->mg d.name=some (.ref fa) ->
   ∃fd:P0,(∀(s:Shared) (u:Value),BindsTo s fd ⟨[u],[]⟩ [("_law_script",u)])/\∀base:Heap,(K w.params).In base->base.Ns OG mg->aH l.prog w (K w.params) mg base dk 16 fa fd ["_law_script"] (vE (K w.params))) :
 VN q loose XP YP l.row.toRowW d [] (λf vs=>VW f vs):=
 _L.BQ (n:=63) (k:=16) (x:="_law_script") (CX:=λ_=>dk) (sp:=λw=>vE (K w.params)) hn (by decide) MX ⟨rfl,by decide,by decide⟩ hY F (λ_ _ a ns hl _ hS=>⟨a,ns,rfl,hS,hl,λ_=>rfl⟩) λ_ _ _ _ _ z=>z
theorem Ja{K:Frag}{mg:Str->Option Value}{hp:Heap}{f:Addr}{oc:Value}{od an:Option Addr}{y0:Array (Option Value)}{kV doc pm hH ct:Value}(l:Sl)(w:World)(fa:Addr)(MY:mg "law"=some (.ref fa))(X:K.In hp)(G:hp.Ns OG mg)(L:Lk K mg)(a:nsIn K OG "law"=some (some (.ref f)):=by k_is)(lk:K.lookup f=some ⟨oc,od,.func (fnOf "law" "law" (bC (top 115)) (bc (top 115)) (ak (top 115)) .none kV doc pm an hH ct),y0⟩:=by k_is)(c:codeIn K hH "law"=true:=by k_is)(k:keepIn K (.ref f)=true:=by k_is) :
 ∃fd:P0,(∀(s:Shared) (v:Value),BindsTo s fd ⟨[v],[]⟩ [("_law_script",v)])/\∀base:Heap,K.In base->base.Ns OG mg->aH l.prog w K mg base dk 16 fa fd ["_law_script"] (vE K):=by
 have e:=MY.symm.trans (mg_of X G a);cases e;exact⟨_,λs v=>.of_eq rfl,λbase _ _=>DW L (yh (st:=top 115) lk c k)⟩
end K60
open PySem PySem.W PyProof.Rows
set_option maxRecDepth 100000 in
set_option maxHeartbeats 0 in
theorem PySem.Challenge.cw_bandscribe_k60_rows_at_the_desk_holds : PySem.Challenge.rw_bandscribe_k60_rows_at_the_desk.Holds := by
 w_on;o_law;(refine PySem.W.holds_open (q:=K60.view) (loose:=[]) (Xt:=λs=>Q7 K60.view [] s&&PV (OY (OU (P4 Á))) s) (XP:=PySem.W.XL K60.view []) (Yf:=PySem.W.Hook.obs (RN K60.pre.heap_39 K60.addrs (λ_=>by kernel_rfl))) (Ya:=PySem.W.Hook.val (RN K60.pre.heap_39 K60.addrs (λ_=>by kernel_rfl))) (YP:=PySem.W.Hook.says (RN K60.pre.heap_39 K60.addrs (λ_=>by kernel_rfl))) (N:=12100) ?hl (PySem.W.Hook.of (RN K60.pre.heap_39 K60.addrs (λ_=>by kernel_rfl))) (PySem.W.Hook.keeps (RN K60.pre.heap_39 K60.addrs (λ_=>by kernel_rfl))) (λs e=>PySem.W.xl_of s (UA.mp e).1) PySem.W.XL.keeps (by rfl) (by rfl) (by rfl) (λs e=>PySem.W.recFacts_of (UA.mp e).2) (by rfl) (by first |assumption |decide+kernel) (by decide+kernel) ⟨rfl,rfl,rfl,rfl,rfl,by decide+kernel⟩ ?hw ?hc;(case hl=>(intro w;exact K60.whole w)));(case hw=>w_witness2)
 k_fill
 refine K60.walk (l:=Á) rfl rfl (λw h Y=>PySem.W.kIn_of Y) ?F
 case F=>
  intro w mg fa h X G MZ;refine K60.Ja _ w fa MZ X G ?L;constructor
  all_goals try first |exact(K60.MS X G).choose_spec |exact(K60.MT).choose_spec |exact mg_of X G (by k_is) |exact K60.na |k_is |exact⟨_,mg_of X G (by k_is)⟩ |exact K60.MU X G |exact K60.MV X G |exact _S.BP (by k_is) |exact _S.w4 (by k_is) |exact⟨(_S.w4 (by k_is)).lk,by k_is,by k_is,by k_is,by k_is⟩ |exact⟨by k_is,by k_is,by k_is⟩ |exact⟨by k_is,by k_is,by k_is,by k_is⟩ |(constructor;exact K60.nz X G;all_goals exact K60.nz X G) |(constructor;exact⟨by k_is,by k_is,by k_is,by k_is⟩;all_goals exact K60.na)
  case L.pL=>exact(K60.Cr (ps:=["self","many"])).choose_spec.1
  case L.pM=>exact(K60.Cr (nm:="__init__") (q:="TooMany.__init__") (st:=_L.inClass (K60.top 4) 0)).choose_spec.2
  case L.sV=>exact(K60.Cr (ps:=["self","number"])).choose_spec.1
  case L.sW=>exact(K60.Cr (nm:="__init__") (q:="NoWord.__init__") (st:=_L.inClass (K60.top 5) 0)).choose_spec.2
  case L.vX=>exact(K60.Cr (ps:=["self","number"])).choose_spec.1
  case L.vY=>exact(K60.Cr (nm:="__init__") (q:="NoRow.__init__") (st:=_L.inClass (K60.top 6) 0)).choose_spec.2
  case L.sY=>exact(K60.Cr (ps:=["self","length"])).choose_spec.1
  case L.sZ=>exact(K60.Cr (nm:="__init__") (q:="Barred.__init__") (st:=_L.inClass (K60.top 7) 0)).choose_spec.2
#print axioms PySem.Challenge.cw_bandscribe_k60_rows_at_the_desk_holds
